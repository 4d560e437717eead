package cutoff

import (
	"math"
	"math/big"
	"slices"
	"testing"

	"turbojet/api"
)

// ends are numbers at the ends of an int, at those of fixed numbers, at those of MaxTime, around 0, and those whose lesser half is ordinary.
func ends() []int {
	return []int{
		math.MinInt, math.MinInt + 1, -1 << 62, -1<<32 - 1, -1 << 32, -1<<32 + 1, -1<<31 - 1, -1 << 31, -1<<31 + 1, -1 << 30, -1000, -100, -2, -1,
		0, 1, 2, 3, 99, 100, 101, 1000, 1<<30 - 2, 1<<30 - 1, 1 << 30, 1<<30 + 1, 1<<31 - 2, 1<<31 - 1, 1 << 31, 1<<32 - 1, 1 << 32, 1<<32 + 1, 1<<32 + 100, 1 << 62, math.MaxInt - 1, math.MaxInt,
	}
}

// around are a number and those beside it, as far as there are such.
func around(n int) []int {
	out := []int{n}
	if n > math.MinInt {
		out = append(out, n-1)
	}
	if n < math.MaxInt {
		out = append(out, n+1)
	}
	return out
}

// bools are both.
var bools = [2]bool{false, true}

// much tells, in words of its own, whether there is too much.
func much(trip, a, b int) bool { return max(a, b) >= trip }

// told is P20.1 in words of its own.
func told(trip, need int, c api.Cut, a, b int, reset bool) api.Cut {
	switch {
	case !much(trip, a, b) && reset:
		return api.Cut{}
	case !much(trip, a, b):
		c.Count = 0
		return c
	case c.Count < 0:
		c.Count = 1
	case c.Count >= 1<<30:
		c.Count = 1 << 30
	default:
		c.Count++
	}
	if c.Count >= need {
		c.Shut = true
	}
	return c
}

// P20.1, P20.2: the numbers of the limits.
func TestNumbers(t *testing.T) {
	if api.MaxTime != 1073741824 || api.Least != -2147483648 || api.Most != 2147483647 {
		t.Errorf("MaxTime %d, Least %d, Most %d", api.MaxTime, api.Least, api.Most)
	}
}

// P20.1, P20.2: the chapter's examples.
func TestExamples(t *testing.T) {
	got := Run(100, 2, [][2]int{{90, 0}, {0, 100}, {100, 100}, {0, 0}}, nil)
	want := []api.Cut{{Count: 0}, {Count: 1}, {Count: 2, Shut: true}, {Count: 0, Shut: true}}
	if !slices.Equal(got, want) {
		t.Errorf("%v", got)
	}
	if most := Most(100, 2, 7); most != 113 {
		t.Errorf("%d", most)
	}
}

// P20.1: by hand: a trip of 100.
func TestStepByHand(t *testing.T) {
	const most = 1 << 30
	for i, c := range []struct {
		need  int
		c     api.Cut
		a, b  int
		reset bool
		want  api.Cut
	}{
		{3, api.Cut{}, 99, 99, false, api.Cut{}},
		{3, api.Cut{}, 99, 99, true, api.Cut{}},
		{3, api.Cut{}, 100, 99, false, api.Cut{Count: 1}},
		{3, api.Cut{}, 99, 100, false, api.Cut{Count: 1}},
		{3, api.Cut{}, 100, 100, true, api.Cut{Count: 1}},
		{3, api.Cut{}, 101, -5, false, api.Cut{Count: 1}},
		{3, api.Cut{}, -5, 101, false, api.Cut{Count: 1}},
		{3, api.Cut{Count: 1}, 100, 0, false, api.Cut{Count: 2}},
		{3, api.Cut{Count: 2}, 100, 0, false, api.Cut{Count: 3, Shut: true}},
		{3, api.Cut{Count: 2}, 0, 100, true, api.Cut{Count: 3, Shut: true}},
		{3, api.Cut{Count: 3, Shut: true}, 0, 100, true, api.Cut{Count: 4, Shut: true}},
		{3, api.Cut{Count: 3}, 0, 100, false, api.Cut{Count: 4, Shut: true}},
		{3, api.Cut{Count: 2}, 99, 99, false, api.Cut{}},
		{3, api.Cut{Count: 3, Shut: true}, 99, 99, false, api.Cut{Shut: true}},
		{3, api.Cut{Count: 3, Shut: true}, 99, 99, true, api.Cut{}},
		{3, api.Cut{Count: 3}, 99, 99, false, api.Cut{}},
		{3, api.Cut{Shut: true}, 100, 0, true, api.Cut{Count: 1, Shut: true}},
		{3, api.Cut{Shut: true}, 100, 0, false, api.Cut{Count: 1, Shut: true}},
		{3, api.Cut{Count: -1}, 100, 0, false, api.Cut{Count: 1}},
		{1, api.Cut{Count: -1}, 100, 0, false, api.Cut{Count: 1, Shut: true}},
		{1, api.Cut{}, 100, 0, true, api.Cut{Count: 1, Shut: true}},
		{0, api.Cut{}, 100, 0, false, api.Cut{Count: 1, Shut: true}},
		{0, api.Cut{}, 99, 0, false, api.Cut{}},
		{-7, api.Cut{Count: -9}, 0, 100, false, api.Cut{Count: 1, Shut: true}},
		{-7, api.Cut{Count: -9}, 0, 99, false, api.Cut{}},
		{3, api.Cut{Count: math.MinInt}, 100, 0, false, api.Cut{Count: 1}},
		{most, api.Cut{Count: most - 2}, 100, 0, false, api.Cut{Count: most - 1}},
		{most, api.Cut{Count: most - 1}, 100, 0, false, api.Cut{Count: most, Shut: true}},
		{most, api.Cut{Count: most}, 100, 0, false, api.Cut{Count: most, Shut: true}},
		{most + 1, api.Cut{Count: most}, 100, 0, false, api.Cut{Count: most}},
		{most + 1, api.Cut{Count: most + 1}, 100, 0, false, api.Cut{Count: most}},
		{most + 1, api.Cut{Count: math.MaxInt}, 100, 0, false, api.Cut{Count: most}},
		{most + 1, api.Cut{Count: math.MaxInt, Shut: true}, 100, 0, false, api.Cut{Count: most, Shut: true}},
		{math.MaxInt, api.Cut{Count: math.MaxInt}, 100, 0, true, api.Cut{Count: most}},
		{3, api.Cut{Count: math.MaxInt}, 0, 0, false, api.Cut{}},
		{math.MinInt, api.Cut{Count: math.MinInt}, 0, 100, false, api.Cut{Count: 1, Shut: true}},
	} {
		if got := Step(100, c.need, c.c, c.a, c.b, c.reset); got != c.want {
			t.Errorf("%d: %+v, not %+v", i, got, c.want)
		}
	}
}

// needs are numbers of frames that a cutoff may wait for: few, many, none, and the ends.
func needs() []int {
	return []int{math.MinInt, -1 << 32, -1<<31 - 1, -1000, -1, 0, 1, 2, 3, 20, 1000, 1<<30 - 1, 1 << 30, 1<<30 + 1, 1 << 31, 1 << 32, 1<<32 + 2, math.MaxInt - 1, math.MaxInt}
}

// counts are those of cuts: the ends, and those around a need, and around one frame less.
func counts(need int) []int {
	out := ends()
	for _, n := range around(need) {
		out = append(out, around(n)...)
	}
	slices.Sort(out)
	return slices.Compact(out)
}

// P20.1: every Cut with every need, with and without too much, and a reset: as told.
func TestStepOfCuts(t *testing.T) {
	for _, need := range needs() {
		for _, count := range counts(need) {
			for bits := range 16 {
				c := api.Cut{Count: count, Shut: bits&1 != 0}
				a, b, reset := 99+bits>>1&1, 99+bits>>2&1, bits&8 != 0
				got, want := Step(100, need, c, a, b, reset), told(100, need, c, a, b, reset)
				if got != want {
					t.Errorf("need %d, %+v, %d, %d, %t: %+v, not %+v", need, c, a, b, reset, got, want)
				}
			}
		}
	}
}

// P20.1: every trip with every two pickups: one that is at least trip is enough, whichever it is, whatever the other one tells.
func TestStepOfPickups(t *testing.T) {
	for _, trip := range ends() {
		for _, a := range append(ends(), around(trip)...) {
			for _, b := range append(ends(), around(trip)...) {
				for _, reset := range bools {
					for _, c := range []api.Cut{{}, {Count: 1}, {Shut: true}} {
						got, want := Step(trip, 2, c, a, b, reset), told(trip, 2, c, a, b, reset)
						if got != want || got != Step(trip, 2, c, b, a, reset) || (got.Count > 0) != (a >= trip || b >= trip) {
							t.Fatalf("trip %d, %+v, %d, %d, %t: %+v, not %+v", trip, c, a, b, reset, got, want)
						}
					}
				}
			}
		}
	}
}

// P20.1: with a trip at the least number of an int there is always too much.
func TestLeastTrip(t *testing.T) {
	for _, a := range ends() {
		for _, b := range ends() {
			if got := Step(math.MinInt, 1, api.Cut{}, a, b, true); got != (api.Cut{Count: 1, Shut: true}) {
				t.Errorf("%d, %d: %+v", a, b, got)
			}
		}
	}
}

// P20.1: where there is too much a reset does nothing, of whatever Cut.
func TestResetWithTooMuch(t *testing.T) {
	for _, need := range needs() {
		for _, count := range counts(need) {
			for _, shut := range bools {
				c := api.Cut{Count: count, Shut: shut}
				got := Step(100, need, c, 0, 100, true)
				if got != Step(100, need, c, 0, 100, false) || shut && !got.Shut {
					t.Errorf("need %d, %+v: %+v", need, c, got)
				}
			}
		}
	}
}

// P20.1, P20.3: one frame behind the other with too much: it is shut behind as many as are needed, and not ahead of that.
func TestNeed(t *testing.T) {
	for _, need := range []int{math.MinInt, -1, 0, 1, 2, 3, 7, 100, 1000, 5000, math.MaxInt} {
		var c api.Cut
		for n := 1; n <= 2000; n++ {
			c = Step(100, need, c, 100*(n&1), 100*(1-n&1), n%3 == 0)
			if c.Count != n || c.Shut != (n >= need) {
				t.Fatalf("need %d, the frame %d: %+v", need, n, c)
			}
		}
	}
}

// fixed is a number held to the fixed ones, in words of its own.
func fixed(n *big.Int) *big.Int {
	least, most := big.NewInt(-1<<31), big.NewInt(1<<31-1)
	if n.Cmp(least) < 0 {
		return least
	}
	if n.Cmp(most) > 0 {
		return most
	}
	return n
}

// saturations are how often the product, the sum, and the difference of Most were beyond the fixed numbers.
type saturations struct {
	product, sum, difference int
}

// toldMost is P20.2 in words of its own.
func toldMost(trip, need, rise int, seen *saturations) int {
	held := func(n *big.Int, beyond *int) *big.Int {
		if fixed(n).Cmp(n) != 0 {
			*beyond++
		}
		return fixed(n)
	}
	frames, each := fixed(big.NewInt(int64(max(need, 0)))), fixed(big.NewInt(int64(max(rise, 0))))
	rises := held(new(big.Int).Mul(frames, each), &seen.product)
	sum := held(new(big.Int).Add(fixed(big.NewInt(int64(trip))), rises), &seen.sum)
	return int(held(new(big.Int).Sub(sum, big.NewInt(1)), &seen.difference).Int64())
}

// P20.2: by hand.
func TestMostByHand(t *testing.T) {
	const least, most = -1 << 31, 1<<31 - 1
	for _, c := range []struct{ trip, need, rise, want int }{
		{100, 2, 7, 113},
		{100, 1, 7, 106},
		{100, 2, 0, 99},
		{100, 0, 7, 99},
		{0, 0, 0, -1},
		{0, 3, 5, 14},
		{-100, 3, 5, -86},
		{100, -2, 7, 99},
		{100, 2, -7, 99},
		{100, -2, -7, 99},
		{100, math.MinInt, math.MinInt, 99},
		{100, math.MinInt, math.MaxInt, 99},
		{100, math.MaxInt, math.MinInt, 99},
		{100, 0, math.MaxInt, 99},
		{21500, 3, 50, 21649},
		{0, most, 1, most - 1},
		{1, most, 1, most - 1},
		{0, 1 << 31, 1, most - 1},
		{0, math.MaxInt, math.MaxInt, most - 1},
		{0, 1 << 32, 1 << 32, most - 1},
		{0, 1 << 16, 1 << 15, most - 1},
		{0, 1 << 15, 1 << 15, 1<<30 - 1},
		{-1000, 1 << 20, 1 << 20, most - 1001},
		{least, 1 << 20, 1 << 20, -2},
		{math.MinInt, math.MaxInt, math.MaxInt, -2},
		{most, 0, 0, most - 1},
		{most, 2, 7, most - 1},
		{most - 14, 2, 7, most - 1},
		{most - 15, 2, 7, most - 2},
		{math.MaxInt, 0, 0, most - 1},
		{1 << 31, 0, 0, most - 1},
		{math.MaxInt, math.MaxInt, math.MaxInt, most - 1},
		{least, 0, 0, least},
		{least, 1, 1, least},
		{least, 1, 2, least + 1},
		{least, -1, 5, least},
		{least + 1, 0, 0, least},
		{math.MinInt, 0, 0, least},
		{math.MinInt, 2, 7, least + 13},
	} {
		if got := Most(c.trip, c.need, c.rise); got != c.want {
			t.Errorf("%d, %d, %d: %d, not %d", c.trip, c.need, c.rise, got, c.want)
		}
	}
}

// P20.2: every three numbers: as told, where each of the product, the sum and the difference saturates, and where none does.
func TestMost(t *testing.T) {
	var seen saturations
	for _, trip := range ends() {
		for _, need := range append(ends(), 1<<15, 1<<16, 46341) {
			for _, rise := range append(ends(), 1<<15, 1<<16, 46341) {
				if got, want := Most(trip, need, rise), toldMost(trip, need, rise, &seen); got != want {
					t.Fatalf("%d, %d, %d: %d, not %d", trip, need, rise, got, want)
				}
			}
		}
	}
	if seen.product < 1000 || seen.sum < 1000 || seen.difference < 1000 {
		t.Errorf("%+v: too seldom to tell", seen)
	}
	for trip := -20; trip <= 20; trip++ {
		for need := -20; need <= 20; need++ {
			for rise := -20; rise <= 20; rise++ {
				if got, want := Most(trip, need, rise), toldMost(trip, need, rise, &seen); got != want {
					t.Fatalf("%d, %d, %d: %d, not %d", trip, need, rise, got, want)
				}
			}
		}
	}
}

// turn is what a frame has: whether each of both pickups is at least trip, and a reset.
type turn struct {
	a, b, reset bool
}

// turns are all that a frame may have.
func turns() []turn {
	var out []turn
	for _, a := range bools {
		for _, b := range bools {
			out = append(out, turn{a, b, false}, turn{a, b, true})
		}
	}
	return out
}

// tooMuch tells whether there is too much in a frame.
func (f turn) tooMuch() bool { return f.a || f.b }

// pickup is a pickup that is at least 100, or is not.
func pickup(n int, tooMuch bool) int {
	if tooMuch {
		return [...]int{100, 101, 1 << 40, math.MaxInt}[n%4]
	}
	return [...]int{99, 0, -1 << 40, math.MinInt}[n%4]
}

// apart are a row's frames as Run takes them, at a trip of 100.
func apart(row []turn) (pickups [][2]int, resets []bool) {
	for n, f := range row {
		pickups, resets = append(pickups, [2]int{pickup(n, f.a), pickup(n+1, f.b)}), append(resets, f.reset)
	}
	return pickups, resets
}

// everyRow goes through all rows of that many frames.
func everyRow(length int, do func(row []turn)) {
	row := make([]turn, length)
	var fill func(n int)
	fill = func(n int) {
		if n == length {
			do(row)
			return
		}
		for _, f := range turns() {
			row[n] = f
			fill(n + 1)
		}
	}
	fill(0)
}

// long is a row of many frames, of which one in so many changes whether there is too much.
func long(k, frames int) []turn {
	row, state, seldom := make([]turn, frames), uint64(k)*0x9E3779B97F4A7C15+1, uint64(k%7+1)
	now := turn{}
	for n := range row {
		state = state*6364136223846793005 + 1442695040888963407
		dice := state >> 33
		if dice%seldom == 0 {
			now = turn{a: dice>>8&1 != 0, b: dice>>9&3 == 0}
		}
		now.reset = dice>>11%(seldom+1) == 0
		row[n] = now
	}
	return row
}

// P20.2: of no frame there is no cut, whatever is reset.
func TestRunOfNothing(t *testing.T) {
	for _, need := range needs() {
		for _, pickups := range [][][2]int{nil, {}, [][2]int{{100, 100}, {100, 100}}[:0]} {
			for _, resets := range [][]bool{nil, {}, {true}, {false, true, true}} {
				if got := Run(0, need, pickups, resets); len(got) != 0 {
					t.Errorf("need %d, %v: %v", need, resets, got)
				}
			}
		}
	}
}

// P20.2: of one frame it is Step of no Cut: with every trip, every need, and resets of none, of one, and of more.
func TestRunOfOne(t *testing.T) {
	for _, trip := range ends() {
		for _, need := range needs() {
			for _, a := range around(trip) {
				for _, b := range around(trip) {
					want := []api.Cut{told(trip, need, api.Cut{}, a, b, false)}
					for _, resets := range [][]bool{nil, {}, []bool{true, true}[:0], {false}, {true}, {false, true}, {true, false, true}} {
						if got := Run(trip, need, [][2]int{{a, b}}, resets); !slices.Equal(got, want) {
							t.Fatalf("trip %d, need %d, %d, %d, %v: %v", trip, need, a, b, resets, got)
						}
					}
				}
			}
		}
	}
}

// P20.2: by hand: a trip of 100, and of both pickups one that tells.
func TestRunByHand(t *testing.T) {
	for name, c := range map[string]struct {
		need   int
		speeds []int
		resets []bool
		counts []int
		shut   []bool
	}{
		"never too much":             {2, []int{0, 99, 50}, nil, []int{0, 0, 0}, []bool{false, false, false}},
		"once, and once again":       {2, []int{100, 99, 100, 99}, nil, []int{1, 0, 1, 0}, []bool{false, false, false, false}},
		"shut, and stays":            {2, []int{100, 100, 0, 0}, nil, []int{1, 2, 0, 0}, []bool{false, true, true, true}},
		"at once":                    {1, []int{100, 0}, nil, []int{1, 0}, []bool{true, true}},
		"without need":               {0, []int{99, 100, 0}, nil, []int{0, 1, 0}, []bool{false, true, true}},
		"a need below 0":             {-3, []int{99, 100, 0}, nil, []int{0, 1, 0}, []bool{false, true, true}},
		"reset with less":            {2, []int{100, 100, 99, 99}, []bool{false, false, true, false}, []int{1, 2, 0, 0}, []bool{false, true, false, false}},
		"reset with too much":        {2, []int{100, 100, 100, 99}, []bool{false, true, true, false}, []int{1, 2, 3, 0}, []bool{false, true, true, true}},
		"reset ahead of it":          {2, []int{99, 100, 100}, []bool{true, true, false}, []int{0, 1, 2}, []bool{false, false, true}},
		"reset, and shut again":      {2, []int{100, 100, 0, 100, 100}, []bool{false, false, true}, []int{1, 2, 0, 1, 2}, []bool{false, true, false, false, true}},
		"shut, with too much again":  {3, []int{100, 100, 100, 0, 100}, nil, []int{1, 2, 3, 0, 1}, []bool{false, false, true, true, true}},
		"resets end early":           {1, []int{100, 0, 100, 0}, []bool{false, true}, []int{1, 0, 1, 0}, []bool{true, false, true, true}},
		"resets are as many":         {1, []int{100, 0, 100, 0}, []bool{false, true, true, true}, []int{1, 0, 1, 0}, []bool{true, false, true, false}},
		"resets are more":            {1, []int{100, 0}, []bool{false, false, true, true}, []int{1, 0}, []bool{true, true}},
		"a need that is never so":    {math.MaxInt, []int{100, 100, 100}, nil, []int{1, 2, 3}, []bool{false, false, false}},
		"a need at the least number": {math.MinInt, []int{99, 100}, nil, []int{0, 1}, []bool{false, true}},
	} {
		for _, other := range []int{-5, 0, 99} {
			one, two := make([][2]int, len(c.speeds)), make([][2]int, len(c.speeds))
			want := make([]api.Cut, len(c.speeds))
			for n, speed := range c.speeds {
				one[n], two[n], want[n] = [2]int{speed, other}, [2]int{other, speed}, api.Cut{Count: c.counts[n], Shut: c.shut[n]}
			}
			if a, b := Run(100, c.need, one, c.resets), Run(100, c.need, two, c.resets); !slices.Equal(a, want) || !slices.Equal(b, want) {
				t.Errorf("%s: %v, and %v, not %v", name, a, b, want)
			}
		}
	}
}

// P20.2: all rows of up to three frames, with resets of every length up to one more than the frames: each frame's Cut is Step of the one ahead.
func TestRun(t *testing.T) {
	for length := range 4 {
		everyRow(length, func(row []turn) {
			pickups, resets := apart(row)
			resets = append(resets, true)
			for _, need := range []int{math.MinInt, -1, 0, 1, 2, 3, 4, math.MaxInt} {
				for n := range len(resets) + 1 {
					isRunOf(t, need, pickups, resets[:n])
				}
			}
		})
	}
}

// isRunOf holds a run, at a trip of 100, against P20.2.
func isRunOf(t *testing.T, need int, pickups [][2]int, resets []bool) {
	got := Run(100, need, pickups, resets)
	if len(got) != len(pickups) {
		t.Fatalf("%d cuts of %d frames", len(got), len(pickups))
	}
	var last api.Cut
	for i, p := range pickups {
		reset := i < len(resets) && resets[i]
		if want := told(100, need, last, p[0], p[1], reset); got[i] != want || got[i] != Step(100, need, last, p[0], p[1], reset) {
			t.Fatalf("need %d, %v, %v: %v, not %+v in the frame %d", need, pickups, resets, got, want, i)
		}
		last = got[i]
	}
}

// P20.2: many frames, of which resets may be fewer; and of the first frames alone the same cuts.
func TestLongRuns(t *testing.T) {
	for k := range 21 {
		pickups, resets := apart(long(k, 3000))
		for _, n := range []int{0, 1, 1500, 2999, 3000} {
			isRunOf(t, k%6, pickups, resets[:n])
			whole := Run(100, k%6, pickups, resets)
			if first := Run(100, k%6, pickups[:n], resets); !slices.Equal(first, whole[:n]) {
				t.Fatalf("%d, the first %d frames", k, n)
			}
		}
	}
}

// seenOf are how often what P20.3 tells of was to be seen.
type seenOf struct {
	shuts, stays, opens, few, vain int
}

// inARow is how many frames with too much there are one behind the other, up to this one.
func inARow(row []turn, i int) int {
	n := 0
	for ; i >= 0 && row[i].tooMuch(); i-- {
		n++
	}
	return n
}

// follows holds a run of a row against P20.3.
func follows(t *testing.T, need int, row []turn, seen *seenOf) {
	pickups, resets := apart(row)
	got := Run(100, need, pickups, resets)
	was := false
	for i, f := range row {
		enough := f.tooMuch() && inARow(row, i) >= need
		switch now := got[i].Shut; {
		case !was && now != enough:
			t.Fatalf("need %d, %+v: %v: the frame %d, with %d in a row", need, row, got, i, inARow(row, i))
		case was && now == (f.reset && !f.tooMuch()):
			t.Fatalf("need %d, %+v: %v: the frame %d, shut ahead of it", need, row, got, i)
		case !was && now:
			seen.shuts++
		case was && f.reset && f.tooMuch():
			seen.vain++
		case was && now:
			seen.stays++
		case was:
			seen.opens++
		case f.tooMuch():
			seen.few++
		}
		if was = got[i].Shut; got[i].Count != inARow(row, i) {
			t.Fatalf("need %d, %+v: %v: the frame %d", need, row, got, i)
		}
	}
}

// P20.3: in all rows of up to five frames, and in many long ones, it is shut exactly behind as many frames with too much as are needed, and stays shut till it is reset with less than trip.
func TestStaysShut(t *testing.T) {
	var seen seenOf
	for length := range 6 {
		everyRow(length, func(row []turn) {
			for _, need := range []int{-1, 1, 2, 3, 5} {
				follows(t, need, row, &seen)
			}
		})
	}
	for k := range 210 {
		follows(t, k%9-1, long(k, 500), &seen)
	}
	if min(seen.shuts, seen.stays, seen.opens, seen.few, seen.vain) < 1000 {
		t.Errorf("%+v: too seldom to tell", seen)
	}
}

// chase is a speed, that a cutoff is to hold back: what it rises by at most, and which of both pickups tells it.
type chase struct {
	trip, need, rise, honest int
}

// goes lets the speed go through so many frames, from just below trip: ways says how far it would rise, or fall, what the other pickup tells, and a reset. It answers the greatest speed.
func (c chase) goes(frames int, ways func(n, speed int) (change, other int, reset bool)) int {
	var cut api.Cut
	speed := c.trip - 1
	fastest := speed
	for n := range frames {
		change, other, reset := ways(n, speed)
		told := [2]int{other, other}
		told[c.honest] = speed
		cut = Step(c.trip, c.need, cut, told[0], told[1], reset)
		if !cut.Shut || speed < c.trip {
			speed += min(change, max(c.rise, 0))
		} else {
			speed += min(change, 0)
		}
		fastest = max(fastest, speed)
	}
	return fastest
}

// others are what a pickup that does not tell the speed may tell: all there is.
func others(trip, n, speed int) int {
	all := []int{math.MinInt, -1, 0, speed, trip - 1, trip, trip + 1, math.MaxInt}
	return all[n%len(all)]
}

// worst are ways that rise as fast as may be, while the other pickup tells nothing.
func worst(n, speed int) (change, other int, reset bool) { return math.MaxInt, math.MinInt, true }

// chases are such with every small need, and rise, some great ones, and either pickup.
func chases() []chase {
	var out []chase
	for _, trip := range []int{-1 << 20, -100, 0, 1, 100, 21500, 1 << 20} {
		for _, need := range []int{1, 2, 3, 4, 10, 1000} {
			for _, rise := range []int{-7, 0, 1, 2, 7, 50, 1 << 20} {
				out = append(out, chase{trip, need, rise, 0}, chase{trip, need, rise, 1})
			}
		}
	}
	return out
}

// P20.3: a speed that one pickup tells, and that rises as fast as may be, comes to Most, and never above it.
func TestFastest(t *testing.T) {
	for _, c := range chases() {
		if got, want := c.goes(c.need+50, worst), Most(c.trip, c.need, c.rise); got != want {
			t.Errorf("%+v: %d, not %d", c, got, want)
		}
	}
}

// P20.3: a speed that rises, and falls, whichever pickup tells it, whatever the other one tells, and whenever it is reset, is never above Most.
func TestNeverAbove(t *testing.T) {
	most := 0
	for k, c := range chases() {
		row := long(k, 3000)
		fall := max(c.rise, 3) * (k%5 + 1)
		got := c.goes(len(row), func(n, speed int) (int, int, bool) {
			if speed >= c.trip && row[n].b {
				return -fall, others(c.trip, n*7+k, speed), row[n].reset
			}
			return []int{c.rise, c.rise, c.rise / 2, -1}[(n*5+k)/3%4], others(c.trip, n*k+n/8, speed), row[n].reset
		})
		if got > Most(c.trip, c.need, c.rise) {
			t.Errorf("%+v: %d, above %d", c, got, Most(c.trip, c.need, c.rise))
		}
		if got >= c.trip {
			most++
		}
	}
	if most < 100 {
		t.Errorf("%d speeds came to trip: too seldom to tell", most)
	}
}

// P20.3: without need it is shut behind one frame with too much, so that a speed goes no further than with a need of 1.
func TestWithoutNeed(t *testing.T) {
	for _, c := range chases() {
		for _, need := range []int{0, -1, math.MinInt} {
			c.need = need
			if got := c.goes(50, worst); got != Most(c.trip, 1, c.rise) {
				t.Errorf("%+v: %d", c, got)
			}
		}
	}
}

// roomy is a list with spare room behind it, that is filled; and all of it.
func roomy[T any](l []T, spare int, filler T) ([]T, []T) {
	whole := slices.Grow(slices.Clone(l), spare)
	for range spare {
		whole = append(whole, filler)
	}
	return whole[:len(l)], whole
}

// R4, R5: lists that are handed in are as they were behind the call, spare room included, whatever stands there; and the same call again, behind others, answers the same.
func TestHandedIn(t *testing.T) {
	everyRow(3, func(row []turn) {
		plain, turned := apart(row)
		for n := range len(turned) + 1 {
			want := Run(100, 2, plain, turned[:n])
			for _, spare := range []int{0, 1, 5} {
				for _, fill := range bools {
					pickups, allPickups := roomy(plain, spare, [2]int{pickup(n, fill), pickup(n, !fill)})
					resets, allResets := roomy(turned[:n], spare, fill)
					wasPickups, wasResets := slices.Clone(allPickups), slices.Clone(allResets)
					first := Run(100, 2, pickups, resets)
					if !slices.Equal(allPickups, wasPickups) || !slices.Equal(allResets, wasResets) {
						t.Fatalf("%v became %v, %v became %v", wasPickups, allPickups, wasResets, allResets)
					}
					Run(99, 1, allPickups, allResets)
					if again := Run(100, 2, pickups, resets); !slices.Equal(first, want) || !slices.Equal(again, want) {
						t.Fatalf("%v, %v, %d to spare: %v, then %v, not %v", pickups, resets, spare, first, again, want)
					}
				}
			}
		}
	})
}

// R5: Step and Most answer the same again, behind other calls.
func TestAgain(t *testing.T) {
	for _, need := range needs() {
		for _, count := range counts(need) {
			c := api.Cut{Count: count, Shut: count%2 == 0}
			first, most := Step(100, need, c, 100, 0, false), Most(100, need, count)
			Step(7, count, api.Cut{Count: need}, need, 0, true)
			Most(count, 3, need)
			Run(100, need, [][2]int{{100, 100}, {count, need}}, nil)
			if Step(100, need, c, 100, 0, false) != first || Most(100, need, count) != most {
				t.Errorf("need %d, %+v: not %+v and %d again", need, c, first, most)
			}
		}
	}
}

// P20.2: cuts that are told one behind the other hang on none that were told elsewhere.
func TestCutsApart(t *testing.T) {
	one, two := cuts(100, 2), cuts(100, 2)
	for n := 1; n <= 5; n++ {
		if got := one([2]int{100, 0}, false); got != (api.Cut{Count: n, Shut: n >= 2}) {
			t.Errorf("the frame %d: %+v", n, got)
		}
	}
	if got := two([2]int{100, 0}, false); got != (api.Cut{Count: 1}) {
		t.Errorf("another one: %+v", got)
	}
}

// R4: what Run answers is new memory each time, its spare room too, and none of what was handed in.
func TestNewMemory(t *testing.T) {
	for length := range 40 {
		pickups, resets := apart(long(length, length))
		want := Run(100, 2, pickups, resets)
		answers := [][]api.Cut{Run(100, 2, pickups, resets), Run(100, 2, pickups, resets), Run(100, 2, pickups[:length/2], nil), Run(100, 2, pickups, resets)}
		for i, one := range answers {
			var was [][]api.Cut
			for _, other := range answers {
				was = append(was, slices.Clone(other[:cap(other)]))
			}
			for n := range one[:cap(one)] {
				one[:cap(one)][n] = api.Cut{Count: -7 - i, Shut: n%2 == 0}
			}
			for j, other := range answers {
				if j != i && !slices.Equal(other[:cap(other)], was[j]) {
					t.Fatalf("%d frames: answer %d changed answer %d", length, i, j)
				}
			}
		}
		if again := Run(100, 2, pickups, resets); !slices.Equal(again, want) {
			t.Fatalf("%d frames: %v, then %v", length, want, again)
		}
		kept := slices.Clone(want)
		clear(pickups)
		clear(resets)
		if !slices.Equal(want, kept) {
			t.Fatalf("%d frames: the answer became %v, of %v", length, want, kept)
		}
	}
}
