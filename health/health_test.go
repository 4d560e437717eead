package health

import (
	"math"
	"slices"
	"sync"
	"testing"

	"turbojet/api"
)

// set is which signals are lost.
type set = [api.Signals]bool

// sets are how many sets of lost signals there are.
const sets = 32

// of is the set that a number's bits tell: the signal 0 by the lowest one.
func of(bits int) set {
	var lost set
	for signal := range lost {
		lost[signal] = bits>>signal&1 != 0
	}
	return lost
}

// these are sets of lost signals by their names.
func these(signals ...int) set {
	var lost set
	for _, signal := range signals {
		lost[signal] = true
	}
	return lost
}

// heard is by hand the score of each set of lost signals, of a channel that was heard, in the order of of.
var heard = [sets]int{
	255, 195, 155, 95, 195, 135, 95, 35,
	215, 155, 115, 55, 155, 95, 55, 0,
	215, 155, 115, 55, 155, 95, 55, 0,
	175, 115, 75, 15, 115, 55, 15, 0,
}

// told is P18.1 in words of its own: what quiet frames leave of a score.
func told(bits, quiet int) int {
	switch {
	case quiet <= 0:
		return heard[bits]
	case quiet > 5:
		return 0
	}
	return max(heard[bits]-20*quiet, 0)
}

// ends are numbers at the ends of an int, at those of fixed numbers, around 0, those whose lesser half is ordinary, and those of which twenty are an ordinary number, for an int that wraps.
func ends() []int {
	return []int{
		math.MinInt, math.MinInt + 1, math.MinInt/20 - 1, math.MinInt / 20, -1 << 62, -1 << 60, -1<<32 + 3, -1 << 32, -1<<31 - 1, -1 << 31, -1001, -1000, -999, -256, -20, -7, -6, -5, -4, -2, -1,
		0, 1, 2, 3, 20, 127, 128, 255, 256, 1<<16 + 3, 1<<31 - 1, 1 << 31, 1 << 32, 1<<32 + 3, 1 << 60, 1 << 62, math.MaxInt / 20, math.MaxInt/20 + 1, math.MaxInt - 1, math.MaxInt,
	}
}

// frames are numbers of quiet frames: around MaxQuiet, around the greatest that is counted, and the ends; in order.
func frames() []int {
	out := append(ends(), 4, 5, 6, 7, 8, 12, 13, 14, 998, 999, 1000, 1001, 1002)
	slices.Sort(out)
	return slices.Compact(out)
}

// P18.1, P18.2: the numbers of the signals, and of the limits.
func TestNumbers(t *testing.T) {
	if api.MaxQuiet != 5 || api.Healthy != 128 {
		t.Errorf("MaxQuiet %d, Healthy %d", api.MaxQuiet, api.Healthy)
	}
	if api.Signals != 5 || api.SN1 != 0 || api.SN2 != 1 || api.SEGT != 2 || api.SPLA != 3 || api.SValve != 4 {
		t.Errorf("%d signals: %d, %d, %d, %d, %d", api.Signals, api.SN1, api.SN2, api.SEGT, api.SPLA, api.SValve)
	}
}

// P18.1: the chapter's examples.
func TestExamples(t *testing.T) {
	a, b, c, d := Score(these(), 0), Score(these(api.SN2), 0), Score(these(api.SN1, api.SN2), 0), Score(these(), 6)
	if a != 255 || b != 155 || c != 95 || d != 0 {
		t.Errorf("%d, %d, %d, %d", a, b, c, d)
	}
}

// takes is by hand what each signal takes alone.
func takes() map[int]int {
	return map[int]int{api.SN1: 60, api.SN2: 100, api.SEGT: 60, api.SPLA: 40, api.SValve: 40}
}

// P18.1: what each signal takes alone, what two take together, and what all but one do.
func TestTakes(t *testing.T) {
	for one, n := range takes() {
		if got := Score(these(one), 0); got != 255-n {
			t.Errorf("%d is lost: %d", one, got)
		}
		for two, m := range takes() {
			if got := Score(these(one, two), 0); one != two && got != 255-n-m {
				t.Errorf("%d and %d are lost: %d", one, two, got)
			}
		}
		all := of(sets - 1)
		all[one] = false
		if got := Score(all, 0); got != max(255-300+n, 0) {
			t.Errorf("all but %d are lost: %d", one, got)
		}
	}
}

// P18.1: what each quiet frame takes, with nothing lost.
func TestQuiet(t *testing.T) {
	for quiet, want := range map[int]int{math.MinInt: 255, -1 << 32: 255, -5: 255, -1: 255, 0: 255, 1: 235, 2: 215, 3: 195, 4: 175, 5: 155, 6: 0, 7: 0, 12: 0, 13: 0, 1000: 0, 1 << 32: 0, 1<<32 + 3: 0, 1 << 62: 0, math.MaxInt: 0} {
		if got := Score(these(), quiet); got != want {
			t.Errorf("quiet for %d: %d", quiet, got)
		}
	}
}

// P18.1: at least 0: by hand, sets and frames that take just less than all, and more.
func TestAtLeastNothing(t *testing.T) {
	for _, c := range []struct {
		lost  set
		quiet int
		want  int
	}{
		{of(sets - 1), 0, 0},
		{of(sets - 1), 1, 0},
		{of(sets - 1), 5, 0},
		{of(sets - 1), 6, 0},
		{of(sets - 1), -1, 0},
		{of(sets - 1), math.MinInt, 0},
		{of(sets - 1), math.MaxInt, 0},
		{these(api.SN1, api.SN2, api.SEGT, api.SPLA), 0, 0},
		{these(api.SN1, api.SN2, api.SEGT, api.SValve), 0, 0},
		{these(api.SN1, api.SN2, api.SEGT), 0, 35},
		{these(api.SN1, api.SN2, api.SEGT), 1, 15},
		{these(api.SN1, api.SN2, api.SEGT), 2, 0},
		{these(api.SN1, api.SN2, api.SPLA, api.SValve), 0, 15},
		{these(api.SN1, api.SN2, api.SPLA, api.SValve), 1, 0},
		{these(api.SN1, api.SEGT, api.SPLA, api.SValve), 2, 15},
		{these(api.SN1, api.SEGT, api.SPLA, api.SValve), 3, 0},
		{these(api.SN1, api.SN2), 4, 15},
		{these(api.SN1, api.SN2), 5, 0},
		{these(api.SN2), 5, 55},
		{these(api.SN2), 6, 0},
	} {
		if got := Score(c.lost, c.quiet); got != c.want {
			t.Errorf("%v, quiet for %d: %d, not %d", c.lost, c.quiet, got, c.want)
		}
	}
}

// P18.1: every set of lost signals, at every number of frames: as told; 0 above MaxQuiet, below 0 as at 0, and never beyond 0 to 255.
func TestScore(t *testing.T) {
	for bits := range sets {
		for _, quiet := range frames() {
			got := Score(of(bits), quiet)
			if want := told(bits, quiet); got != want {
				t.Errorf("%v, quiet for %d: %d, not %d", of(bits), quiet, got, want)
			}
			if quiet > 5 && got != 0 || quiet < 0 && got != Score(of(bits), 0) || got < 0 || got > 255 {
				t.Errorf("%v, quiet for %d: %d", of(bits), quiet, got)
			}
		}
	}
}

// P18.2: how long a channel was quiet, by hand: behind a frame in which it was not heard.
func TestStepQuiet(t *testing.T) {
	for was, want := range map[int]int{
		math.MinInt: 1, math.MinInt + 1: 1, -1<<32 + 3: 1, -1 << 31: 1, -1001: 1, -1000: 1, -2: 1, -1: 1, 0: 1, 1: 2, 2: 3, 3: 4, 4: 5, 5: 6, 6: 7, 500: 501, 997: 998, 998: 999,
		999: 1000, 1000: 1000, 1001: 1000, 1002: 1000, 1 << 30: 1000, 1<<31 - 1: 1000, 1 << 32: 1000, 1<<32 + 3: 1000, math.MaxInt - 1: 1000, math.MaxInt: 1000,
	} {
		for bits := range sets {
			got := Step(api.Health{Quiet: was, Score: 255}, of(bits), false)
			if got != (api.Health{Quiet: want, Score: told(bits, want)}) {
				t.Errorf("quiet for %d, lost %v: %+v", was, of(bits), got)
			}
		}
	}
}

// P18.2: a channel that was heard is not quiet, however long it was.
func TestStepHeard(t *testing.T) {
	for _, was := range frames() {
		for bits := range sets {
			got := Step(api.Health{Quiet: was, Score: 1}, of(bits), true)
			if got != (api.Health{Quiet: 0, Score: heard[bits]}) {
				t.Errorf("quiet for %d, lost %v, heard: %+v", was, of(bits), got)
			}
		}
	}
}

// P18.2: the score is that of lost and of the new Quiet, whatever it was before.
func TestStepScore(t *testing.T) {
	for _, quiet := range frames() {
		for bits := range sets {
			for _, score := range ends() {
				for _, is := range []bool{false, true} {
					h := Step(api.Health{Quiet: quiet, Score: score}, of(bits), is)
					if want := Score(of(bits), h.Quiet); h.Score != want || h != Step(api.Health{Quiet: quiet}, of(bits), is) {
						t.Fatalf("quiet for %d, with %d, lost %v, heard %t: %+v, not %d", quiet, score, of(bits), is, h, want)
					}
				}
			}
		}
	}
}

// P18.2: by hand: whether a channel is healthy, of one made by hand too.
func TestWell(t *testing.T) {
	for score, high := range map[int]bool{
		math.MinInt: false, -1<<32 + 200: false, -1 << 31: false, -255: false, -128: false, -1: false, 0: false, 1: false, 126: false, 127: false,
		128: true, 129: true, 155: true, 254: true, 255: true, 256: true, 1000: true, 1<<31 - 1: true, 1 << 31: true, 1 << 32: true, 1 << 62: true, math.MaxInt: true,
	} {
		for quiet, short := range map[int]bool{
			math.MinInt: true, -1<<32 + 7: true, -1 << 31: true, -6: true, -5: true, -1: true, 0: true, 1: true, 4: true, 5: true,
			6: false, 7: false, 1000: false, 1001: false, 1<<31 - 1: false, 1 << 31: false, 1 << 32: false, 1<<32 + 3: false, 1 << 62: false, math.MaxInt: false,
		} {
			if got := Well(api.Health{Quiet: quiet, Score: score}); got != (high && short) {
				t.Errorf("quiet for %d, with %d: %t", quiet, score, got)
			}
		}
	}
}

// P18.2: of which sets of lost signals, and frames, a channel is well behind a step: by hand, the most of each.
func TestWellBehindStep(t *testing.T) {
	for _, c := range []struct {
		lost set
		most int // the greatest Quiet with which it is well; less than 0, if there is none
	}{
		{these(), 5},
		{these(api.SPLA), 4},
		{these(api.SValve), 4},
		{these(api.SN1), 3},
		{these(api.SEGT), 3},
		{these(api.SPLA, api.SValve), 2},
		{these(api.SN2), 1},
		{these(api.SN1, api.SPLA), 1},
		{these(api.SEGT, api.SValve), 1},
		{these(api.SN1, api.SEGT), 0},
		{these(api.SN2, api.SPLA), -1},
		{these(api.SN1, api.SPLA, api.SValve), -1},
		{these(api.SN1, api.SN2), -1},
		{of(sets - 1), -1},
	} {
		h := Step(api.Health{Quiet: 3, Score: 3}, c.lost, true)
		for range 10 {
			if got := Well(h); got != (h.Quiet <= c.most) {
				t.Errorf("lost %v: %+v: %t", c.lost, h, got)
			}
			h = Step(h, c.lost, false)
		}
	}
}

// P18.3: with more lost a score is no greater: every two sets of which one holds the other.
func TestMoreLost(t *testing.T) {
	less := 0
	for few := range sets {
		for many := range sets {
			if few&many != few {
				continue
			}
			for _, quiet := range frames() {
				a, b := Score(of(few), quiet), Score(of(many), quiet)
				if b > a {
					t.Errorf("quiet for %d: %d of %v, %d of %v", quiet, a, of(few), b, of(many))
				}
				if b < a {
					less++
				}
			}
		}
	}
	if less < 1000 {
		t.Errorf("less %d times: too seldom to tell", less)
	}
}

// P18.3: quiet for longer a score is no greater: every two numbers of frames; and so behind a step.
func TestLonger(t *testing.T) {
	row, less := frames(), 0
	for bits := range sets {
		for i, short := range row {
			for _, long := range row[i:] {
				a, b := Score(of(bits), short), Score(of(bits), long)
				if b > a {
					t.Errorf("%v: %d for %d, %d for %d", of(bits), a, short, b, long)
				}
				if b < a {
					less++
				}
				x, y := Step(api.Health{Quiet: short}, of(bits), false), Step(api.Health{Quiet: long}, of(bits), false)
				if y.Quiet < x.Quiet || y.Score > x.Score || Well(y) && !Well(x) {
					t.Errorf("%v: %+v behind %d, %+v behind %d", of(bits), x, short, y, long)
				}
			}
		}
	}
	if less < 1000 {
		t.Errorf("less %d times: too seldom to tell", less)
	}
}

// P18.3: one that is heard, and has lost nothing, is well, whatever it was before.
func TestHeardIsWell(t *testing.T) {
	for _, quiet := range frames() {
		for _, score := range ends() {
			h := Step(api.Health{Quiet: quiet, Score: score}, these(), true)
			if h != (api.Health{Score: 255}) || !Well(h) {
				t.Errorf("quiet for %d, with %d: %+v", quiet, score, h)
			}
		}
	}
}

// turn is what a frame has, by a short rule: which signals are lost, and whether the channel was heard.
func turn(k, n int) (bits int, is bool) {
	if (n+k)%7 < 3 {
		bits = (n*n*5 + k*3 + n) % sets
	}
	return bits, (n*n+k*n+n/9)%(2+k%9) == 0
}

// P18.2, P18.3: over rows of frames each health is as told, Quiet is for how many frames in a row it was not heard, and one that is heard and has lost nothing is well.
func TestRowsOfFrames(t *testing.T) {
	well, ill, whole := 0, 0, 0
	for k := range 60 {
		h, quiet := api.Health{}, 0
		for n := range 300 {
			bits, is := turn(k, n)
			if quiet++; is {
				quiet = 0
			}
			h = Step(h, of(bits), is)
			if want := (api.Health{Quiet: quiet, Score: told(bits, quiet)}); h != want {
				t.Fatalf("%d, %d: %+v, not %+v", k, n, h, want)
			}
			if is && bits == 0 {
				whole++
				if !Well(h) {
					t.Fatalf("%d, %d: heard, with nothing lost, and not well: %+v", k, n, h)
				}
			}
			if Well(h) != (h.Score >= 128) {
				t.Fatalf("%d, %d: %+v: %t", k, n, h, Well(h))
			}
			if Well(h) {
				well++
			} else {
				ill++
			}
		}
	}
	if well < 1000 || ill < 1000 || whole < 1000 {
		t.Errorf("well %d, ill %d, whole %d times: too seldom to tell", well, ill, whole)
	}
}

// P18.2: a channel that is never heard, for more frames than are counted; then heard again.
func TestQuietForLong(t *testing.T) {
	h := api.Health{Quiet: math.MinInt, Score: math.MaxInt}
	for n := 1; n <= 2100; n++ {
		h = Step(h, these(), false)
		if h != (api.Health{Quiet: min(n, 1000), Score: told(0, n)}) || Well(h) != (n <= 5) {
			t.Fatalf("behind %d frames: %+v", n, h)
		}
	}
	if h = Step(h, these(), true); h != (api.Health{Score: 255}) || !Well(h) {
		t.Errorf("heard again: %+v", h)
	}
	if h = Step(h, these(), false); h != (api.Health{Quiet: 1, Score: 235}) || !Well(h) {
		t.Errorf("quiet again: %+v", h)
	}
}

// answer is what all calls tell of a health, and of what is lost.
type answer struct {
	score       int
	quiet, here api.Health
	well        [3]bool
}

func answers(h api.Health, lost set) answer {
	a := answer{score: Score(lost, h.Quiet), quiet: Step(h, lost, false), here: Step(h, lost, true)}
	a.well = [3]bool{Well(h), Well(a.quiet), Well(a.here)}
	return a
}

// R4, R5: what is handed in is as it was behind the calls, and the same call again, behind others, answers the same.
func TestHandedIn(t *testing.T) {
	for bits := range sets {
		for i, quiet := range frames() {
			lost, h := of(bits), api.Health{Quiet: quiet, Score: 100 + i}
			first := answers(h, lost)
			if lost != of(bits) || h != (api.Health{Quiet: quiet, Score: 100 + i}) {
				t.Fatalf("%v, quiet for %d: became %v, %+v", of(bits), quiet, lost, h)
			}
			answers(api.Health{Quiet: i, Score: quiet}, of(sets-1-bits))
			if again := answers(h, lost); again != first {
				t.Fatalf("%v, quiet for %d: %+v, then %+v", lost, quiet, first, again)
			}
		}
	}
}

// R5: calls beside each other do not share a score.
func TestBeside(t *testing.T) {
	var all sync.WaitGroup
	for k := range 8 {
		all.Go(func() {
			for n := range 2000 {
				bits, quiet := (n+k*5)%sets, (n/sets+k)%8
				if got := Score(of(bits), quiet); got != told(bits, quiet) {
					t.Errorf("%v, quiet for %d: %d", of(bits), quiet, got)
				}
			}
		})
	}
	all.Wait()
}
