package sensor

import (
	"math"
	"math/big"
	"testing"

	"turbojet/api"
)

const (
	one = 1 << 16 // the Gain of which a count and value are alike
	far = 1 << 20 // the greatest Gain, Low and High
	end = 65535   // the greatest count
)

func of(gain, offset, low, high int) api.Scale {
	return api.Scale{Gain: gain, Offset: offset, Low: low, High: high}
}

// example is the chapter's scale.
func example() api.Scale { return of(1<<15, 100, -100, 1000) }

// scales may be: ordinary ones, the chapter's edges, Gains of 1, of 2^16 and its neighbours and of 2^20, Gains that divide 2^16 and that do not, and scales with few values.
func scales() []api.Scale {
	l := []api.Scale{
		example(),
		of(1, 0, 0, 1), of(1, 0, 0, far), of(1, 16, -far, far), of(1, 1, -1, 0), of(1, 16, -far, -far+1), of(1, end, 0, end), of(1, 0, far-1, far), of(1, 5, -70000, 70000),
		of(2, 32, -far, far), of(3, 48, -far, far), of(7, 9, -80000, 90000), of(1000, 16000, -far, far), of(2047, 32752, -far, far),
		of(one-1, 0, 0, end), of(one-1, 0, 0, end+1), of(one-1, 100, -100, end-100), of(one-1, end, -end, 0), of(one-1, 1, -1, 1),
		of(one, 0, 0, end), of(one, 0, 0, 1), of(one, 100, -100, end-100), of(one, end, -end, 0), of(one, 0, 7, 8),
		of(one+1, 0, 0, end-1), of(one+1, 101, -100, end-102), of(one+1, end, -end+1, 0), of(one+1, 2, -1, 0),
		of(far, 0, 0, 4095), of(far, 15, 0, 4095), of(far, 32000, -2000, 2000), of(far, end, -4095, 0), of(far, 16, -1, 0),
		of(40000, 1234, -2000, 50000), of(30000, 30000, -5000, 5000), of(20000, 40000, -90000, 60000), of(99999, 77, -50, 40000), of(123457, 20000, -10000, 20000), of(far-1, 20000, -1200, 2500),
		of(100, 0, 0, 300), of(100, 1, -50, 50), of(5000, 1000, -10000, -9000), of(5000, 0, 9000, 10000),
	}
	for k := range 60 {
		l = append(l, scattered(k))
	}
	return l
}

// scattered has fields that a short rule scatters; it ends as far up as its count allows.
func scattered(k int) api.Scale {
	gain := 1 + (k*k*k*31+k*977+17)%(1<<(1+k%20))
	offset := (k*k*53 + k*1009) % end
	low := max(-far, -offset*one/gain)
	return of(gain, offset, low, min(far, low+1+(k*k*k*7)%5000, (end-offset)*one/gain))
}

// bad are scales that may not be, each for one cause.
func bad() map[string]api.Scale {
	return map[string]api.Scale{
		"all 0":                          {},
		"Gain 0":                         of(0, 0, 0, 1),
		"Gain -1":                        of(-1, 1, 0, 1),
		"Gain beyond":                    of(far+1, 0, 0, 1),
		"Gain twice the most":            of(2*far, 0, 0, 1),
		"the least Gain":                 of(math.MinInt, 0, 0, 1),
		"the greatest Gain":              of(math.MaxInt, 0, 0, 1),
		"Offset -1":                      of(1, -1, 0, 1),
		"Offset -1, but Low counts as 0": of(one, -1, 1, 2),
		"Offset beyond":                  of(1, end+1, 0, 1),
		"Offset beyond, but High counts as the most": of(one, end+1, -2, -1),
		"the least Offset":                           of(1, math.MinInt, 0, 1),
		"the greatest Offset":                        of(1, math.MaxInt, 0, 1),
		"Low beyond":                                 of(1, 17, -far-1, 0),
		"the least Low":                              of(1, end, math.MinInt, 0),
		"Low and High above":                         of(1, 0, far+1, far+2),
		"the greatest Low":                           of(1, 0, math.MaxInt, 1),
		"High beyond":                                of(1, 0, 0, far+1),
		"the greatest High":                          of(1, 0, 0, math.MaxInt),
		"High and Low below":                         of(1, end, -far-2, -far-1),
		"the least High":                             of(1, 0, 0, math.MinInt),
		"the least Low and the greatest High":        of(1, 0, math.MinInt, math.MaxInt),
		"the greatest Low and the least High":        of(1, 0, math.MaxInt, math.MinInt),
		"Low and High alike":                         of(1, 0, 5, 5),
		"Low and High 0":                             of(one, 5, 0, 0),
		"Low above High":                             of(1, 0, 5, 4),
		"Low far above High":                         of(1, end, far, -far),
		"Low's count -1":                             of(one, 0, -1, 5),
		"Low's count -1, behind an Offset":           of(one, 99, -100, 5),
		"Low's count below 0 by a part":              of(1, 0, -1, 5),
		"Low's count below 0 by a part of the last":  of(1<<15, 100, -201, 0),
		"Low's count -1, of the least Low":           of(1, 15, -far, 5),
		"Low's count far below":                      of(far, end, -far, 0),
		"both counts -1":                             of(1, 0, -2, -1),
		"High's count beyond":                        of(one, 0, 0, end+1),
		"High's count beyond, behind an Offset":      of(one, 1, 0, end),
		"High's count beyond, of the most Offset":    of(one, end, 0, 1),
		"High's count beyond, of a Gain 1":           of(1, end, 0, one),
		"High's count beyond, of the most Gain":      of(far, 0, 0, 4096),
		"High's count one beyond, of the most Gain":  of(far, 16, 0, 4095),
		"High's count far beyond":                    of(far, 0, 0, far),
		"both counts beyond":                         of(one, 5, end, end+1),
	}
}

// places are numbers around a scale's ends, far outside of them, and around an int's ends.
func places(s api.Scale) []int {
	l := []int{math.MinInt, math.MinInt + 1, api.Least - 1, api.Least, api.Least + 1, -1 << 40, -far, -1, 0, 1, far, 1 << 40, api.Most - 1, api.Most, api.Most + 1, math.MaxInt - 1, math.MaxInt}
	for _, x := range []int{s.Low, s.High, (s.Low + s.High) / 2} {
		l = append(l, x-1, x, x+1)
	}
	return l
}

// counted is P6.2's count, reckoned with numbers of any size. Euclid's quotient by a divisor above 0 is the one that is rounded down.
func counted(s api.Scale, v int) int {
	v = min(max(v, s.Low), s.High)
	product := new(big.Int).Mul(big.NewInt(int64(v)), big.NewInt(int64(s.Gain)))
	return s.Offset + int(product.Div(product, big.NewInt(one)).Int64())
}

// P6.1: scales that may be.
func TestCheckMay(t *testing.T) {
	for _, s := range scales() {
		if err := Check(s); err != api.OK {
			t.Errorf("Check(%v) = %d", s, err)
		}
	}
	if api.MaxCount != end || api.ErrScale != 60 {
		t.Errorf("MaxCount is %d, ErrScale %d", api.MaxCount, api.ErrScale)
	}
}

// P6.1: each cause for which a scale may not be.
func TestCheckMayNot(t *testing.T) {
	for name, s := range bad() {
		if err := Check(s); err != api.ErrScale {
			t.Errorf("%s: Check(%v) = %d", name, s, err)
		}
	}
}

// P6.1: each field at its ends and one beyond, the others as they may be.
func TestCheckEnds(t *testing.T) {
	for _, c := range []struct {
		inside, beyond api.Scale
	}{
		{of(1, 0, 0, 1), of(0, 0, 0, 1)},
		{of(far, 0, 0, 1), of(far+1, 0, 0, 1)},
		{of(1, 0, 0, 1), of(1, -1, 0, 1)},
		{of(1, end, 0, 1), of(1, end+1, 0, 1)},
		{of(1, end, -far, 0), of(1, end, -far-1, 0)},
		{of(1, 0, far-1, far), of(1, 0, far, far)},
		{of(1, 0, 0, far), of(1, 0, 0, far+1)},
		{of(1, end, -far, -far+1), of(1, end, -far, -far)},
		{of(1, 0, 4, 5), of(1, 0, 5, 5)},
		{of(1, 0, 4, 5), of(1, 0, 6, 5)},
		{of(1, 1, -5, -4), of(1, 1, -4, -4)},
		{of(one, 0, 0, 5), of(one, 0, -1, 5)},
		{of(one, 100, -100, 5), of(one, 100, -101, 5)},
		{of(1<<15, 100, -200, 5), of(1<<15, 100, -201, 5)},
		{of(one, 0, 5, end), of(one, 0, 5, end+1)},
		{of(one, end, -5, 0), of(one, end, -5, 1)},
		{of(1<<15, 0, 0, 2*end+1), of(1<<15, 0, 0, 2*end+2)},
		{of(1, end, 0, one-1), of(1, end, 0, one)},
		{of(far, 15, 0, 4095), of(far, 16, 0, 4095)},
	} {
		if err := Check(c.inside); err != api.OK {
			t.Errorf("Check(%v) = %d", c.inside, err)
		}
		if err := Check(c.beyond); err != api.ErrScale {
			t.Errorf("Check(%v) = %d", c.beyond, err)
		}
	}
}

// P6.1: all together, in fields around their ends, against what the promise says.
func TestCheckFields(t *testing.T) {
	within := func(n, low, high int) bool { return low <= n && n <= high }
	for _, gain := range []int{math.MinInt, -1, 0, 1, 2, one - 1, one, one + 1, far - 1, far, far + 1, math.MaxInt} {
		for _, offset := range []int{math.MinInt, -1, 0, 1, 15, 16, 17, end - 1, end, end + 1, math.MaxInt} {
			for _, low := range []int{math.MinInt, -far - 1, -far, -end - 1, -end, -2, -1, 0, 1, far - 1, far, far + 1, math.MaxInt} {
				for _, high := range []int{math.MinInt, -far - 1, -far, -far + 1, -1, 0, 1, 2, 4095, 4096, end - 1, end, end + 1, far, far + 1, math.MaxInt} {
					s, want := of(gain, offset, low, high), api.ErrScale
					if within(gain, 1, far) && within(offset, 0, end) && within(low, -far, far) && within(high, -far, far) && low < high && counted(s, low) >= 0 && counted(s, high) <= end {
						want = api.OK
					}
					if err := Check(s); err != want {
						t.Fatalf("Check(%v) = %d, not %d", s, err, want)
					}
				}
			}
		}
	}
}

// P6.1: of a scale that may not be all answers are 0.
func TestBadScalesAnswer0(t *testing.T) {
	for name, s := range bad() {
		if got := Step(s); got != 0 {
			t.Errorf("%s: Step(%v) = %d", name, s, got)
		}
		for _, x := range append(places(example()), end, end+1) {
			if raw, value := Raw(s, x), Value(s, x); raw != 0 || value != 0 {
				t.Errorf("%s: of %v and %d: %d, %d", name, s, x, raw, value)
			}
		}
	}
}

// P6.2: the chapter's examples, and others by hand: values far outside, at the ends, between, and below 0 where the product is no whole number.
func TestRaw(t *testing.T) {
	for _, c := range []struct {
		s       api.Scale
		v, want int
	}{
		{example(), 10, 105}, {example(), -7, 96}, {example(), 5000, 600},
		{example(), 11, 105}, {example(), 12, 106}, {example(), 0, 100}, {example(), 1, 100}, {example(), -1, 99}, {example(), -2, 99}, {example(), -3, 98},
		{example(), -99, 50}, {example(), -100, 50}, {example(), -101, 50}, {example(), -5000, 50}, {example(), math.MinInt, 50}, {example(), api.Least - 1, 50},
		{example(), 999, 599}, {example(), 1000, 600}, {example(), 1001, 600}, {example(), 1 << 40, 600}, {example(), math.MaxInt, 600}, {example(), api.Most + 1, 600},
		{of(1, 16, -far, far), -far, 0}, {of(1, 16, -far, far), far, 32}, {of(1, 16, -far, far), -1, 15}, {of(1, 16, -far, far), 1, 16}, {of(1, 16, -far, far), one - 1, 16}, {of(1, 16, -far, far), one, 17}, {of(1, 16, -far, far), -one, 15}, {of(1, 16, -far, far), -one - 1, 14},
		{of(one, 0, 0, end), 7, 7}, {of(one, 0, 0, end), end, end}, {of(one, 0, 0, end), end + 1, end}, {of(one, 0, 0, end), -1, 0}, {of(one, 100, -100, 100), -30, 70},
		{of(one-1, 10, -10, 10), 1, 10}, {of(one-1, 10, -10, 10), -1, 9}, {of(one-1, 10, -10, 10), 10, 19}, {of(one+1, 11, -10, 10), 1, 12}, {of(one+1, 11, -10, 10), -1, 9}, {of(one+1, 11, -10, 10), -10, 0},
		{of(far, 15, 0, 4095), 4095, end}, {of(far, 15, 0, 4095), 1, 31}, {of(far, 16, -1, 0), -1, 0},
	} {
		if got := Raw(c.s, c.v); got != c.want {
			t.Errorf("Raw(%v, %d) = %d, not %d", c.s, c.v, got, c.want)
		}
	}
}

// P6.2: counts against numbers of any size, around all ends and all along.
func TestRawIsExact(t *testing.T) {
	for _, s := range scales() {
		hold := func(v int) {
			if got, want := Raw(s, v), counted(s, v); got != want {
				t.Fatalf("Raw(%v, %d) = %d, not %d", s, v, got, want)
			}
		}
		for _, v := range places(s) {
			hold(v)
		}
		for v := s.Low; v <= s.High; v += 1 + (s.High-s.Low)/4001 {
			hold(v)
		}
	}
}

// P6.2: the chapter's examples, and others by hand: counts below, at and above the ends, and ones between those that values have.
func TestValue(t *testing.T) {
	wide := of(1<<17, 10, -5, 100)
	for _, c := range []struct {
		s       api.Scale
		n, want int
	}{
		{example(), 105, 10}, {example(), 0, -100}, {example(), 65535, 1000},
		{example(), 106, 12}, {example(), 96, -8}, {example(), 99, -2}, {example(), 100, 0}, {example(), 50, -100}, {example(), 51, -98}, {example(), 49, -100}, {example(), -1, -100}, {example(), math.MinInt, -100},
		{example(), 599, 998}, {example(), 600, 1000}, {example(), 601, 1000}, {example(), end + 1, 1000}, {example(), 1 << 40, 1000}, {example(), math.MaxInt, 1000},
		{of(1<<15, 0, 0, 5), 2, 4}, {of(1<<15, 0, 0, 5), 3, 5}, {of(1, 0, 0, 5), 0, 0}, {of(1, 0, 0, 5), 1, 5},
		{wide, 0, -5}, {wide, 1, -4}, {wide, 2, -4}, {wide, 9, 0}, {wide, 10, 0}, {wide, 11, 1}, {wide, 12, 1}, {wide, 209, 100}, {wide, 210, 100}, {wide, 211, 100},
		{of(one, 0, 0, end), 7, 7}, {of(one, 0, 0, end), end, end}, {of(one, 0, 0, end), end + 1, end}, {of(one, 0, 0, end), -1, 0}, {of(one, 100, -100, 100), 70, -30},
		{of(1, 16, -far, far), 0, -far}, {of(1, 16, -far, far), 1, -15 * one}, {of(1, 16, -far, far), 16, 0}, {of(1, 16, -far, far), 17, one}, {of(1, 16, -far, far), 32, far}, {of(1, 16, -far, far), 33, far},
		{of(far, 15, 0, 4095), end, 4095}, {of(far, 15, 0, 4095), end - 1, 4095}, {of(far, 15, 0, 4095), end - 16, 4094}, {of(far, 15, 0, 4095), 15, 0}, {of(far, 15, 0, 4095), 16, 1}, {of(far, 15, 0, 4095), 14, 0},
	} {
		if got := Value(c.s, c.n); got != c.want {
			t.Errorf("Value(%v, %d) = %d, not %d", c.s, c.n, got, c.want)
		}
	}
}

// P6.2: at each count from below Low's to above High's, against a look at the values one by one.
func TestValueIsTheLeast(t *testing.T) {
	for _, s := range scales() {
		first, last := counted(s, s.Low), counted(s, s.High)
		v, count := s.Low, first
		for n := first - 2; n <= last+2; n++ {
			for v < s.High && count < n {
				v++
				count = s.Offset + v*s.Gain>>16
			}
			if got := Value(s, n); got != v {
				t.Fatalf("Value(%v, %d) = %d, not %d", s, n, got, v)
			}
		}
		for _, n := range []int{math.MinInt, api.Least, -1, first - 1} {
			if got := Value(s, n); got != s.Low {
				t.Errorf("Value(%v, %d) = %d, not Low", s, n, got)
			}
		}
		for _, n := range []int{last + 1, end + 1, api.Most + 1, math.MaxInt} {
			if got := Value(s, n); got != s.High {
				t.Errorf("Value(%v, %d) = %d, not High", s, n, got)
			}
		}
	}
}

// P6.2: the chapter's example, Gains that divide 2^16 and that do not, Gains above it, and scales with fewer values, by hand.
func TestStep(t *testing.T) {
	for _, c := range []struct {
		s    api.Scale
		want int
	}{
		{example(), 1},
		{of(1, 0, 0, far), one - 1}, {of(2, 0, 0, far), one/2 - 1}, {of(1<<14, 0, 0, 1000), 3}, {of(1<<15, 0, 0, 1000), 1}, {of(one, 0, 0, 1000), 0},
		{of(3, 0, 0, far), 21845}, {of(1<<14-1, 0, 0, 1000), 4}, {of(1<<14+1, 0, 0, 1000), 3}, {of(1<<15-1, 0, 0, 1000), 2}, {of(1<<15+1, 0, 0, 1000), 1}, {of(20000, 0, 0, 1000), 3}, {of(one-1, 0, 0, 1000), 1},
		{of(one+1, 0, 0, 1000), 0}, {of(1<<17, 0, 0, 1000), 0}, {of(far, 0, 0, 1000), 0},
		{of(1, 0, 0, 1), 1}, {of(1, 0, 0, 100), 100}, {of(1, 16, -far, -far+7), 7}, {of(1, 1, -50, 50), 100}, {of(1, 0, 0, one-2), one - 2}, {of(1, 0, 0, one-1), one - 1}, {of(1, 0, 0, one), one - 1}, {of(1<<14, 0, 0, 2), 2}, {of(1<<14, 0, 0, 3), 3}, {of(1<<14, 0, 0, 4), 3}, {of(one-1, 0, 0, 1), 1}, {of(far, 0, 0, 1), 0},
	} {
		if got := Step(c.s); got != c.want {
			t.Errorf("Step(%v) = %d, not %d", c.s, got, c.want)
		}
	}
}

// P6.2: of each Gain Step and one is the least number that makes 2^16 with it, in scales that are as long as may be, and in ones just shorter than Step.
func TestStepOfEachGain(t *testing.T) {
	for gain := 1; gain <= far; gain++ {
		high := min(far, (end*one+one-1)/gain)
		got := Step(of(gain, 0, 0, high))
		if (got+1)*gain < one || got*gain >= one {
			t.Fatalf("Step of the Gain %d: %d", gain, got)
		}
		if got > 1 && Step(of(gain, 0, 0, got-1)) != got-1 {
			t.Fatalf("Step of the Gain %d, in a shorter scale", gain)
		}
	}
}

// P6.3: all along a scale counts are from 0 to MaxCount, and do not fall; P6.2: at most Step and one of them are the same.
func TestCountsRise(t *testing.T) {
	for _, s := range scales() {
		step, last, same := Step(s), 0, 0
		for v := s.Low; v <= s.High; v++ {
			n := Raw(s, v)
			if n < last || n > end {
				t.Fatalf("Raw(%v, %d) = %d, behind %d", s, v, n, last)
			}
			if n > last {
				same = 0
			}
			same++
			if same > step+1 {
				t.Fatalf("%v: more than %d values have the count %d", s, step+1, n)
			}
			last = n
		}
	}
}

// P6.3: counts of values outside a scale are from 0 to MaxCount too, and values of all counts are from Low to High, and do not fall.
func TestAnswersStayWithin(t *testing.T) {
	for _, s := range scales() {
		for _, v := range places(s) {
			if n := Raw(s, v); n < 0 || n > end {
				t.Errorf("Raw(%v, %d) = %d", s, v, n)
			}
		}
		last := s.Low
		for n := -3; n <= end+3; n++ {
			v := Value(s, n)
			if v < last || v > s.High {
				t.Fatalf("Value(%v, %d) = %d, behind %d", s, n, v, last)
			}
			last = v
		}
	}
}

// P6.3: a value that is counted is told as one at most Step below it, with the same count; of one outside, as of the nearer end.
func TestToldAgain(t *testing.T) {
	for _, s := range scales() {
		step := Step(s)
		hold := func(v int) {
			n := Raw(s, v)
			told, inside := Value(s, n), min(max(v, s.Low), s.High)
			if told > inside || told < inside-step || Raw(s, told) != n {
				t.Fatalf("%v: %d is counted as %d, and told as %d", s, v, n, told)
			}
		}
		for v := s.Low; v <= s.High; v++ {
			hold(v)
		}
		for _, v := range places(s) {
			hold(v)
		}
	}
}

// P6.3: Step is no more than is needed: in a scale from 0 on the first values with one count are so many, and one.
func TestStepIsReached(t *testing.T) {
	for _, gain := range []int{1, 2, 3, 100, 1 << 14, 1<<14 + 1, 1<<15 - 1, 1 << 15, 20000, one - 1, one, one + 1, far} {
		s := of(gain, 0, 0, min(far, (end*one+one-1)/gain))
		v := Step(s)
		if n := Raw(s, v); n != 0 || v-Value(s, n) != Step(s) || Raw(s, v+1) == 0 {
			t.Errorf("of the Gain %d: %d is counted as %d", gain, v, n)
		}
	}
}
