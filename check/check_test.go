package check

import (
	"math"
	"testing"

	"turbojet/api"
)

const (
	least = -1 << 31
	most  = 1<<31 - 1
	far   = 1 << 30 // the greatest number that a counter goes on to
	long  = 1000    // the greatest Bad, and Fine
)

// limits are the chapter's: 0 to 100, Rate 10, Stuck 0, Bad 2, Fine 3.
func limits() api.Limit { return of(0, 100, 10, 0, 2, 3) }

func of(low, high, rate, stuck, bad, fine int) api.Limit {
	return api.Limit{Low: low, High: high, Rate: rate, Stuck: stuck, Bad: bad, Fine: fine}
}

// watch is one that is begun, and not lost.
func watch(last, same, wrong, right int) api.Watch {
	return api.Watch{Last: last, Same: same, Wrong: wrong, Right: right, Begun: true}
}

func lost(w api.Watch) api.Watch {
	w.Lost = true
	return w
}

func unbegun(w api.Watch) api.Watch {
	w.Begun = false
	return w
}

// numbers are ones around 0, a counter's end, the ends of fixed numbers, and those of an int.
func numbers() []int {
	return []int{math.MinInt, math.MinInt + 1, -1 << 40, least - 1, least, least + 1, -far, -2, -1, 0, 1, 2, 3, 50, long, far - 1, far, far + 1, most - 1, most, most + 1, 1 << 40, math.MaxInt - 1, math.MaxInt}
}

func fixed(n int) int { return min(max(n, least), most) }

// may is P8.1, word by word.
func may(l api.Limit) bool {
	return l.Low >= least && l.Low <= most && l.High >= least && l.High <= most && l.Low <= l.High &&
		l.Rate >= 0 && l.Rate <= most && l.Stuck >= 0 && l.Stuck <= most &&
		l.Bad >= 1 && l.Bad <= long && l.Fine >= 1 && l.Fine <= long
}

// more is P8.3's one more.
func more(n int) int {
	if n < 0 {
		return 1
	}
	if n >= far {
		return far
	}
	return n + 1
}

// wrong is P8.2, word by word.
func wrong(l api.Limit, w api.Watch, v int) bool {
	if !may(l) || v < l.Low || v > l.High {
		return true
	}
	if !w.Begun {
		return false
	}
	change := fixed(fixed(v) - fixed(w.Last))
	if change > l.Rate || change < -l.Rate {
		return true
	}
	return l.Stuck != 0 && v == w.Last && more(w.Same) >= l.Stuck
}

// stepped is P8.3, word by word.
func stepped(l api.Limit, w api.Watch, v int) (api.Watch, bool) {
	if !may(l) {
		return w, false
	}
	x := api.Watch{Begun: true, Last: fixed(v), Lost: w.Lost}
	if w.Begun && w.Last == fixed(v) {
		x.Same = more(w.Same)
	}
	isWrong := wrong(l, w, v)
	if isWrong {
		x.Wrong = more(w.Wrong)
	} else {
		x.Right = more(w.Right)
	}
	if x.Wrong >= l.Bad {
		x.Lost = true
	} else if x.Right >= l.Fine {
		x.Lost = false
	}
	return x, !isWrong && !x.Lost
}

// bad are limits that may not be, each for one cause (but the last ones).
func bad() []api.Limit {
	return []api.Limit{
		of(least-1, 100, 10, 0, 2, 3), of(-1<<32, 100, 10, 0, 2, 3), of(math.MinInt, 100, 10, 0, 2, 3), of(most+1, most, 10, 0, 2, 3), of(math.MaxInt, most, 10, 0, 2, 3), of(math.MinInt, least, 10, 0, 2, 3),
		of(0, most+1, 10, 0, 2, 3), of(0, 1<<32, 10, 0, 2, 3), of(0, math.MaxInt, 10, 0, 2, 3), of(least, least-1, 10, 0, 2, 3), of(least, math.MinInt, 10, 0, 2, 3),
		of(5, 4, 10, 0, 2, 3), of(0, -1, 10, 0, 2, 3), of(101, 100, 10, 0, 2, 3), of(most, most-1, 10, 0, 2, 3), of(least+1, least, 10, 0, 2, 3), of(most, least, 10, 0, 2, 3),
		of(0, 100, -1, 0, 2, 3), of(0, 100, most+1, 0, 2, 3), of(0, 100, least, 0, 2, 3), of(0, 100, 1<<32, 0, 2, 3), of(0, 100, math.MinInt, 0, 2, 3), of(0, 100, math.MaxInt, 0, 2, 3),
		of(0, 100, 10, -1, 2, 3), of(0, 100, 10, most+1, 2, 3), of(0, 100, 10, least, 2, 3), of(0, 100, 10, 1<<32, 2, 3), of(0, 100, 10, math.MinInt, 2, 3), of(0, 100, 10, math.MaxInt, 2, 3),
		of(0, 100, 10, 0, 0, 3), of(0, 100, 10, 0, -1, 3), of(0, 100, 10, 0, long+1, 3), of(0, 100, 10, 0, 1<<32+2, 3), of(0, 100, 10, 0, math.MinInt, 3), of(0, 100, 10, 0, math.MaxInt, 3),
		of(0, 100, 10, 0, 2, 0), of(0, 100, 10, 0, 2, -1), of(0, 100, 10, 0, 2, long+1), of(0, 100, 10, 0, 2, 1<<32+3), of(0, 100, 10, 0, 2, math.MinInt), of(0, 100, 10, 0, 2, math.MaxInt),
		{}, of(1, 0, -1, -1, 0, 0), of(math.MinInt, math.MinInt, math.MinInt, math.MinInt, math.MinInt, math.MinInt), of(math.MaxInt, math.MaxInt, math.MaxInt, math.MaxInt, math.MaxInt, math.MaxInt), of(math.MinInt, math.MaxInt, 10, 0, 2, 3),
	}
}

// watches are hand-made ones, of each counter at each edge, begun or not, lost or not.
func watches() []api.Watch {
	var all []api.Watch
	for _, n := range numbers() {
		for _, w := range []api.Watch{watch(n, 0, 0, 0), watch(50, n, 0, 0), watch(50, 0, n, 0), watch(50, 0, 0, n), watch(50, n, n, n), watch(n, n, n, n), watch(50, 2, n, 1), watch(50, 2, 1, n)} {
			all = append(all, w, lost(w), unbegun(w), lost(unbegun(w)))
		}
	}
	return all
}

// P8.1, P8.3: the chapter's numbers.
func TestNumbers(t *testing.T) {
	if api.Least != least || api.Most != most || api.MaxTime != far || api.ErrArg != 1 || api.OK != 0 {
		t.Errorf("Least is %d, Most %d, MaxTime %d, ErrArg %d, OK %d", api.Least, api.Most, api.MaxTime, api.ErrArg, api.OK)
	}
}

// P8.1: each field at its ends and one beyond, and at the ends of an int.
func TestCheck(t *testing.T) {
	for _, l := range []api.Limit{
		limits(), of(0, 0, 0, 0, 1, 1), of(5, 5, 0, 0, 1, 1), of(4, 5, 0, 0, 1, 1), of(-5, -5, 1, 1, 1, 1), of(-5, -4, 1, 1, 1, 1),
		of(least, 100, 10, 0, 2, 3), of(least+1, 100, 10, 0, 2, 3), of(0, most, 10, 0, 2, 3), of(0, most-1, 10, 0, 2, 3), of(least, most, 10, 0, 2, 3), of(least, least, 10, 0, 2, 3), of(most, most, 10, 0, 2, 3),
		of(0, 100, 0, 0, 2, 3), of(0, 100, 1, 0, 2, 3), of(0, 100, most-1, 0, 2, 3), of(0, 100, most, 0, 2, 3),
		of(0, 100, 10, 1, 2, 3), of(0, 100, 10, most-1, 2, 3), of(0, 100, 10, most, 2, 3),
		of(0, 100, 10, 0, 1, 3), of(0, 100, 10, 0, long-1, 3), of(0, 100, 10, 0, long, 3), of(0, 100, 10, 0, 2, 1), of(0, 100, 10, 0, 2, long-1), of(0, 100, 10, 0, 2, long), of(least, most, most, most, long, long),
	} {
		if err := Check(l); err != api.OK {
			t.Errorf("Check(%+v) = %d", l, err)
		}
	}
	for _, l := range bad() {
		if err := Check(l); err != api.ErrArg {
			t.Errorf("Check(%+v) = %d", l, err)
		}
	}
}

// P8.1: all fields together, around their ends, against what the promise says.
func TestCheckFields(t *testing.T) {
	ends := []int{math.MinInt, least - 1, least, -1, 0, 1, most - 1, most, most + 1, math.MaxInt}
	sizes := []int{math.MinInt, -1, 0, 1, most, most + 1, math.MaxInt}
	waits := []int{math.MinInt, -1, 0, 1, 2, long - 1, long, long + 1, math.MaxInt}
	for _, low := range ends {
		for _, high := range ends {
			for _, rate := range sizes {
				for _, stuck := range sizes {
					for _, wait := range waits {
						for _, fine := range waits {
							l, want := of(low, high, rate, stuck, wait, fine), api.ErrArg
							if may(l) {
								want = api.OK
							}
							if err := Check(l); err != want {
								t.Fatalf("Check(%+v) = %d, not %d", l, err, want)
							}
						}
					}
				}
			}
		}
	}
}

// P8.2, P8.3: of limits that may not be Wrong is true, and Step answers the watch as it was, and false: of values that would be right, and of watches that are none that Step makes.
func TestLimitsThatMayNotBe(t *testing.T) {
	for _, l := range bad() {
		for _, w := range append(watches(), api.Watch{}) {
			for _, v := range []int{math.MinInt, least, -1, 0, 50, 51, most, math.MaxInt} {
				if !Wrong(l, w, v) {
					t.Fatalf("Wrong(%+v, %+v, %d) is false", l, w, v)
				}
				if got, good := Step(l, w, v); got != w || good {
					t.Fatalf("Step(%+v, %+v, %d) = %+v, %v", l, w, v, got, good)
				}
			}
		}
	}
}

// P8.1 to P8.4: the chapter's examples, value by value.
func TestExamples(t *testing.T) {
	w := api.Watch{}
	for i, c := range []struct {
		v     int
		wrong bool
		want  api.Watch
		good  bool
	}{
		{50, false, watch(50, 0, 0, 1), true},
		{55, false, watch(55, 0, 0, 2), true},
		{90, true, watch(90, 0, 1, 0), false},
		{55, true, lost(watch(55, 0, 2, 0)), false},
		{55, false, lost(watch(55, 1, 0, 1)), false},
		{56, false, lost(watch(56, 0, 0, 2)), false},
		{57, false, watch(57, 0, 0, 3), true},
		{58, false, watch(58, 0, 0, 4), true},
	} {
		if got := Wrong(limits(), w, c.v); got != c.wrong {
			t.Errorf("%d: Wrong of %d is %v", i, c.v, got)
		}
		var good bool
		if w, good = Step(limits(), w, c.v); w != c.want || good != c.good {
			t.Errorf("%d: Step of %d = %+v, %v, not %+v, %v", i, c.v, w, good, c.want, c.good)
		}
	}
}

// wrongCase is one of Wrong, by hand.
type wrongCase struct {
	l    api.Limit
	w    api.Watch
	v    int
	want bool
}

func tryWrong(t *testing.T, cases []wrongCase) {
	t.Helper()
	for _, c := range cases {
		if got := Wrong(c.l, c.w, c.v); got != c.want {
			t.Errorf("Wrong(%+v, %+v, %d) = %v", c.l, c.w, c.v, got)
		}
		if _, good := Step(c.l, c.w, c.v); good && c.want {
			t.Errorf("Step(%+v, %+v, %d) is good", c.l, c.w, c.v)
		}
	}
}

// P8.2: at Low, High and one beyond each, of a watch that is begun and of one that is not.
func TestEnds(t *testing.T) {
	for _, w := range []api.Watch{{}, watch(0, 0, 0, 0), lost(watch(0, 0, 5, 0))} {
		wide := func(low, high int) api.Limit { return of(low, high, most, 0, 2, 3) }
		tryWrong(t, []wrongCase{
			{wide(0, 100), w, -1, true}, {wide(0, 100), w, 0, false}, {wide(0, 100), w, 1, false}, {wide(0, 100), w, 99, false}, {wide(0, 100), w, 100, false}, {wide(0, 100), w, 101, true},
			{wide(-7, -3), w, -8, true}, {wide(-7, -3), w, -7, false}, {wide(-7, -3), w, -3, false}, {wide(-7, -3), w, -2, true}, {wide(-7, -3), w, 0, true}, {wide(-7, -3), w, 5, true},
			{wide(5, 5), w, 4, true}, {wide(5, 5), w, 5, false}, {wide(5, 5), w, 6, true},
			{wide(0, 100), w, least, true}, {wide(0, 100), w, most, true}, {wide(0, 100), w, math.MinInt, true}, {wide(0, 100), w, math.MaxInt, true}, {wide(0, 100), w, 1<<32 + 50, true}, {wide(0, 100), w, -1<<32 + 50, true},
			{wide(0, most), w, most - 1, false}, {wide(0, most), w, most, false}, {wide(0, most), w, most + 1, true}, {wide(0, most), w, 1 << 40, true}, {wide(0, most), w, math.MaxInt, true},
			{wide(-most, 0), w, -most, false}, {wide(-most, 0), w, least, true}, {wide(least, 0), w, -most, false}, {wide(least, 0), w, least - 1, true}, {wide(least, 0), w, -1 << 40, true}, {wide(least, 0), w, math.MinInt, true},
		})
	}
	tryWrong(t, []wrongCase{{of(least, most, 0, 1, 1, 1), api.Watch{}, least, false}, {of(least, most, 0, 1, 1, 1), api.Watch{}, most, false}, {of(least, least, 0, 0, 1, 1), api.Watch{}, least, false}, {of(most, most, 0, 0, 1, 1), api.Watch{}, most, false}})
}

// P8.2: the change at Rate, at -Rate and one beyond each; saturated, of values and Lasts at and beyond the ends of fixed numbers. Most below is Least, which is beyond each -Rate; Most above is beyond no Rate.
func TestRate(t *testing.T) {
	rate := func(n int) api.Limit { return of(least, most, n, 0, 2, 3) }
	at := func(last int) api.Watch { return watch(last, 0, 0, 0) }
	tryWrong(t, []wrongCase{
		{limits(), at(50), 39, true}, {limits(), at(50), 40, false}, {limits(), at(50), 41, false}, {limits(), at(50), 50, false}, {limits(), at(50), 59, false}, {limits(), at(50), 60, false}, {limits(), at(50), 61, true},
		{limits(), unbegun(at(50)), 39, false}, {limits(), unbegun(at(50)), 61, false}, {limits(), unbegun(at(math.MinInt)), 0, false}, {limits(), unbegun(at(math.MaxInt)), 100, false}, {rate(0), unbegun(at(0)), most, false}, {rate(0), unbegun(at(0)), least, false},
		{rate(0), at(50), 49, true}, {rate(0), at(50), 50, false}, {rate(0), at(50), 51, true}, {rate(1), at(-5), -7, true}, {rate(1), at(-5), -6, false}, {rate(1), at(-5), -4, false}, {rate(1), at(-5), -3, true},
		{limits(), at(110), 100, false}, {limits(), at(111), 100, true}, {limits(), at(-10), 0, false}, {limits(), at(-11), 0, true},
		{rate(most), at(0), most, false}, {rate(most - 1), at(0), most, true}, {rate(most - 1), at(1), most, false}, {rate(most), at(0), -most, false}, {rate(most - 1), at(0), -most, true}, {rate(most), at(0), least, true}, {rate(most), at(-1), least, false}, {rate(most), at(1), least, true},
		{rate(most), at(-1), most, false}, {rate(most), at(least), most, false}, {rate(most - 1), at(least), most, true}, {rate(most), at(most), least, true}, {rate(most), at(most), 0, false}, {rate(most), at(most), -1, true}, {rate(most), at(least), 0, false},
		{rate(0), at(most + 1), most, false}, {rate(0), at(math.MaxInt), most, false}, {rate(0), at(math.MaxInt), most - 1, true}, {rate(1), at(math.MaxInt), most - 1, false}, {rate(1), at(1 << 40), most - 2, true},
		{rate(0), at(least - 1), least, false}, {rate(0), at(math.MinInt), least, false}, {rate(0), at(math.MinInt), least + 1, true}, {rate(1), at(math.MinInt), least + 1, false}, {rate(1), at(-1 << 40), least + 2, true},
		{rate(most), at(math.MinInt), most, false}, {rate(most), at(math.MaxInt), least, true}, {rate(most), at(math.MinInt), 0, false}, {rate(most), at(math.MaxInt), 0, false}, {rate(most), at(math.MaxInt), -1, true},
	})
}

// P8.2: Stuck 0 and not 0, the same value and another, Same one below what makes it stuck, at it and above it, below 0, and around MaxTime.
func TestStuck(t *testing.T) {
	stuck := func(n int) api.Limit { return of(0, 100, 10, n, 2, 3) }
	at := func(same int) api.Watch { return watch(50, same, 0, 0) }
	tryWrong(t, []wrongCase{
		{stuck(3), at(0), 50, false}, {stuck(3), at(1), 50, false}, {stuck(3), at(2), 50, true}, {stuck(3), at(3), 50, true}, {stuck(3), at(4), 50, true},
		{stuck(3), at(2), 51, false}, {stuck(3), at(2), 49, false}, {stuck(3), at(far), 51, false}, {stuck(3), at(math.MaxInt), 51, false},
		{stuck(3), unbegun(at(2)), 50, false}, {stuck(3), unbegun(at(far)), 50, false}, {stuck(1), unbegun(api.Watch{}), 0, false},
		{stuck(0), at(0), 50, false}, {stuck(0), at(2), 50, false}, {stuck(0), at(far), 50, false}, {stuck(0), at(-1), 50, false}, {stuck(0), at(math.MaxInt), 50, false}, {stuck(0), at(math.MinInt), 50, false},
		{stuck(1), at(0), 50, true}, {stuck(1), at(0), 51, false}, {stuck(1), at(-1), 50, true}, {stuck(1), at(-2), 50, true}, {stuck(1), at(math.MinInt), 50, true},
		{stuck(2), at(0), 50, false}, {stuck(2), at(1), 50, true}, {stuck(2), at(-1), 50, false}, {stuck(2), at(-far), 50, false}, {stuck(2), at(math.MinInt), 50, false}, {stuck(2), at(math.MaxInt), 50, true},
		{stuck(far - 1), at(far - 3), 50, false}, {stuck(far - 1), at(far - 2), 50, true}, {stuck(far), at(far - 2), 50, false}, {stuck(far), at(far - 1), 50, true}, {stuck(far), at(far), 50, true}, {stuck(far), at(far + 1), 50, true}, {stuck(far), at(math.MaxInt), 50, true},
		{stuck(far + 1), at(far - 1), 50, false}, {stuck(far + 1), at(far), 50, false}, {stuck(far + 1), at(far + 1), 50, false}, {stuck(far + 1), at(math.MaxInt), 50, false}, {stuck(most), at(most), 50, false}, {stuck(most), at(math.MaxInt), 50, false}, {stuck(most), at(far), 50, false},
		{of(least, most, 0, 1, 2, 3), watch(most+1, 5, 0, 0), most, false}, {of(least, most, 0, 1, 2, 3), watch(most, 5, 0, 0), most, true}, {of(least, most, 0, 1, 2, 3), watch(least-1, 5, 0, 0), least, false}, {of(least, most, 0, 1, 2, 3), watch(least, 5, 0, 0), least, true}, {of(least, most, 0, 1, 2, 3), watch(math.MaxInt, 5, 0, 0), most, false},
	})
}

// P8.2: what alone is enough: each cause without the others, and without any.
func TestCauses(t *testing.T) {
	l := of(0, 100, 10, 3, 2, 3)
	tryWrong(t, []wrongCase{
		{l, watch(98, 0, 0, 0), 101, true}, {l, watch(3, 0, 0, 0), -1, true}, {l, watch(50, 9, 0, 0), 80, true}, {l, watch(50, 9, 0, 0), 20, true}, {l, watch(50, 2, 0, 0), 50, true},
		{l, watch(50, 1, 9, 0), 50, false}, {l, watch(50, 9, 9, 0), 60, false}, {l, lost(watch(50, 0, 9, 0)), 55, false}, {l, lost(unbegun(watch(50, 9, 9, 9))), 50, false},
		{l, watch(200, 9, 0, 0), 200, true}, {l, watch(math.MaxInt, 0, 0, 0), math.MaxInt, true}, {l, watch(math.MinInt, 0, 0, 0), math.MinInt, true},
	})
}

// stepCase is one of Step, by hand.
type stepCase struct {
	l    api.Limit
	w    api.Watch
	v    int
	want api.Watch
	good bool
}

func tryStep(t *testing.T, cases []stepCase) {
	t.Helper()
	for _, c := range cases {
		if got, good := Step(c.l, c.w, c.v); got != c.want || good != c.good {
			t.Errorf("Step(%+v, %+v, %d) = %+v, %v, not %+v, %v", c.l, c.w, c.v, got, good, c.want, c.good)
		}
	}
}

// P8.3: Last is what is fixed of a value; it is begun.
func TestLast(t *testing.T) {
	l := of(least, most, most, 0, 9, 9)
	tryStep(t, []stepCase{
		{l, api.Watch{}, 0, watch(0, 0, 0, 1), true}, {l, api.Watch{}, 7, watch(7, 0, 0, 1), true}, {l, api.Watch{}, -7, watch(-7, 0, 0, 1), true},
		{l, api.Watch{}, most, watch(most, 0, 0, 1), true}, {l, api.Watch{}, most + 1, watch(most, 0, 1, 0), false}, {l, api.Watch{}, 1 << 40, watch(most, 0, 1, 0), false}, {l, api.Watch{}, math.MaxInt, watch(most, 0, 1, 0), false},
		{l, api.Watch{}, least, watch(least, 0, 0, 1), true}, {l, api.Watch{}, least - 1, watch(least, 0, 1, 0), false}, {l, api.Watch{}, -1 << 40, watch(least, 0, 1, 0), false}, {l, api.Watch{}, math.MinInt, watch(least, 0, 1, 0), false},
		{limits(), watch(50, 0, 0, 0), 200, watch(200, 0, 1, 0), false}, {limits(), watch(50, 0, 0, 0), -200, watch(-200, 0, 1, 0), false}, {limits(), watch(50, 0, 0, 0), 55, watch(55, 0, 0, 1), true},
	})
}

// P8.3: Same goes on if Last is what Last becomes, of values that are wrong too, and is set back to 0 by another value, and by a watch that is not begun.
func TestSame(t *testing.T) {
	l := of(0, 100, most, 0, 9, 9)
	tryStep(t, []stepCase{
		{l, watch(50, 0, 0, 0), 50, watch(50, 1, 0, 1), true}, {l, watch(50, 1, 0, 0), 50, watch(50, 2, 0, 1), true}, {l, watch(50, 7, 0, 0), 51, watch(51, 0, 0, 1), true}, {l, watch(50, far, 0, 0), 49, watch(49, 0, 0, 1), true},
		{l, unbegun(watch(50, 7, 0, 0)), 50, watch(50, 0, 0, 1), true}, {l, unbegun(watch(50, far, 0, 0)), 50, watch(50, 0, 0, 1), true}, {l, api.Watch{}, 0, watch(0, 0, 0, 1), true},
		{l, watch(50, -1, 0, 0), 50, watch(50, 1, 0, 1), true}, {l, watch(50, -2, 0, 0), 50, watch(50, 1, 0, 1), true}, {l, watch(50, math.MinInt, 0, 0), 50, watch(50, 1, 0, 1), true}, {l, watch(50, -5, 0, 0), 51, watch(51, 0, 0, 1), true},
		{l, watch(50, far-2, 0, 0), 50, watch(50, far-1, 0, 1), true}, {l, watch(50, far-1, 0, 0), 50, watch(50, far, 0, 1), true}, {l, watch(50, far, 0, 0), 50, watch(50, far, 0, 1), true}, {l, watch(50, far+1, 0, 0), 50, watch(50, far, 0, 1), true}, {l, watch(50, math.MaxInt, 0, 0), 50, watch(50, far, 0, 1), true},
		{l, watch(200, 3, 0, 0), 200, watch(200, 4, 1, 0), false}, {l, watch(200, 3, 0, 0), 201, watch(201, 0, 1, 0), false},
		{l, watch(most, 3, 0, 0), math.MaxInt, watch(most, 4, 1, 0), false}, {l, watch(most, 3, 0, 0), most + 1, watch(most, 4, 1, 0), false}, {l, watch(least, 3, 0, 0), math.MinInt, watch(least, 4, 1, 0), false},
		{l, watch(math.MaxInt, 3, 0, 0), math.MaxInt, watch(most, 0, 1, 0), false}, {l, watch(most+1, 3, 0, 0), most, watch(most, 0, 1, 0), false}, {l, watch(math.MinInt, 3, 0, 0), math.MinInt, watch(least, 0, 1, 0), false},
		{of(0, 100, 10, 3, 9, 9), watch(50, 2, 0, 4), 50, watch(50, 3, 1, 0), false}, {of(0, 100, 10, 3, 9, 9), watch(50, 3, 1, 0), 50, watch(50, 4, 2, 0), false}, {of(0, 100, 10, 3, 9, 9), watch(50, 4, 2, 0), 51, watch(51, 0, 0, 1), true},
	})
}

// P8.3: Wrong and Right go on, each sets the other one back, from below 0 to 1, and to MaxTime and no further. What is right and not lost is good, and nothing else.
func TestWrongAndRight(t *testing.T) {
	l := of(0, 100, most, 0, long, long)
	for _, c := range []struct{ n, want int }{
		{math.MinInt, 1}, {-far, 1}, {-2, 1}, {-1, 1}, {0, 1}, {1, 2}, {2, 3}, {long - 2, long - 1}, {long - 1, long}, {long, long + 1}, {far - 2, far - 1}, {far - 1, far}, {far, far}, {far + 1, far}, {1 << 40, far}, {math.MaxInt, far},
	} {
		for _, other := range numbers() {
			wrong, right := api.Watch{Last: 101, Wrong: c.want, Lost: c.want >= long, Begun: true}, watch(51, 0, 0, c.want)
			stillLost := lost(right)
			stillLost.Lost = c.want < long
			tryStep(t, []stepCase{
				{l, watch(50, 0, c.n, other), 101, wrong, false}, {l, unbegun(watch(50, 0, c.n, other)), 101, wrong, false}, {l, lost(watch(50, 0, c.n, other)), 101, lost(wrong), false},
				{l, watch(50, 0, other, c.n), 51, right, true}, {l, unbegun(watch(50, 0, other, c.n)), 51, right, true}, {l, lost(watch(50, 0, other, c.n)), 51, stillLost, !stillLost.Lost},
			})
		}
	}
}

// P8.3: Lost at one below Bad and at it, not Lost at Fine, as it was at one below; of watches that were lost, and of ones that were not.
func TestLost(t *testing.T) {
	var cases []stepCase
	for _, n := range []int{1, 2, 3, 10, long - 1, long} {
		l, m := of(0, 100, most, 0, n, 7), of(0, 100, most, 0, 7, n)
		cases = append(cases,
			stepCase{l, watch(50, 0, n-1, 0), 101, lost(watch(101, 0, n, 0)), false}, stepCase{l, lost(watch(50, 0, n-1, 0)), 101, lost(watch(101, 0, n, 0)), false},
			stepCase{l, watch(50, 0, n, 0), 101, lost(watch(101, 0, n+1, 0)), false}, stepCase{l, watch(50, 0, far, 0), 101, lost(watch(101, 0, far, 0)), false},
			stepCase{m, lost(watch(50, 0, 0, n-1)), 51, watch(51, 0, 0, n), true}, stepCase{m, watch(50, 0, 0, n-1), 51, watch(51, 0, 0, n), true},
			stepCase{m, lost(watch(50, 0, 0, n)), 51, watch(51, 0, 0, n+1), true}, stepCase{m, lost(watch(50, 0, 0, far)), 51, watch(51, 0, 0, far), true},
		)
		if n > 1 {
			cases = append(cases,
				stepCase{l, watch(50, 0, n-2, 0), 101, watch(101, 0, n-1, 0), false}, stepCase{l, lost(watch(50, 0, n-2, 0)), 101, lost(watch(101, 0, n-1, 0)), false}, stepCase{l, watch(50, 0, -9, 0), 101, watch(101, 0, 1, 0), false},
				stepCase{m, lost(watch(50, 0, 0, n-2)), 51, lost(watch(51, 0, 0, n-1)), false}, stepCase{m, watch(50, 0, 0, n-2), 51, watch(51, 0, 0, n-1), true}, stepCase{m, lost(watch(50, 0, 0, -9)), 51, lost(watch(51, 0, 0, 1)), false},
			)
		}
	}
	tryStep(t, cases)
	tryStep(t, []stepCase{
		{limits(), watch(50, 0, far, 0), 51, watch(51, 0, 0, 1), true}, {limits(), lost(watch(50, 0, far, 0)), 51, lost(watch(51, 0, 0, 1)), false},
		{limits(), watch(50, 0, 0, far), 101, watch(101, 0, 1, 0), false}, {limits(), lost(watch(50, 0, 0, far)), 101, lost(watch(101, 0, 1, 0)), false},
		{limits(), lost(unbegun(watch(50, 0, 0, 0))), 51, lost(watch(51, 0, 0, 1)), false}, {limits(), lost(unbegun(watch(50, 0, 0, 2))), 51, watch(51, 0, 0, 3), true}, {limits(), unbegun(watch(50, 0, 1, 0)), 101, lost(watch(101, 0, 2, 0)), false},
	})
}

// P8.2, P8.3: hand-made watches, values and limits at all edges, against what the promises say.
func TestAgainstThePromises(t *testing.T) {
	var all []api.Limit
	for _, ends := range [][2]int{{0, 100}, {50, 50}, {least, most}, {least, -1}, {1, most}} {
		for _, rate := range []int{0, 1, 10, most - 1, most} {
			for _, stuck := range []int{0, 1, 2, 3, far, far + 1, most} {
				all = append(all, of(ends[0], ends[1], rate, stuck, 1, 1), of(ends[0], ends[1], rate, stuck, 2, 3), of(ends[0], ends[1], rate, stuck, long, long))
			}
		}
	}
	values := append(numbers(), -11, -10, 10, 39, 40, 41, 49, 51, 59, 60, 61, 99, 100, 101)
	for _, l := range all {
		for _, w := range watches() {
			for _, v := range values {
				if got, want := Wrong(l, w, v), wrong(l, w, v); got != want {
					t.Fatalf("Wrong(%+v, %+v, %d) = %v", l, w, v, got)
				}
				got, good := Step(l, w, v)
				if want, wantGood := stepped(l, w, v); got != want || good != wantGood {
					t.Fatalf("Step(%+v, %+v, %d) = %+v, %v, not %+v, %v", l, w, v, got, good, want, wantGood)
				}
			}
		}
	}
}

// scattered are values that a short rule scatters: some go on, some stay, some jump, some are outside.
func scattered(k int) []int {
	values, v := make([]int, 0, 80), 50
	for i := range cap(values) {
		switch n := k*31 + i*977 + k*i*13 + i*i*7; n % 11 {
		case 0, 1:
			v = 150
		case 2:
			v = n % 101
		case 3, 4, 5:
			v = 50
		default:
			v = min(max(v+n%5-2, 0), 100)
		}
		values = append(values, v)
	}
	return values
}

// P8.4: from a signal's beginning on, what is lost is good again just at the Fine-th right value in a row, what is not is lost just at the Bad-th wrong one; and Step goes on as the promises say.
func TestLostAndGoodAgain(t *testing.T) {
	goes, comes := 0, 0
	for k := range 1500 {
		l := of(0, 100, 10+k%40, k%6, 1+k%4, 1+k/4%5)
		var w api.Watch
		var rights []bool // of each value so far
		inRow := func(right bool, many int) bool {
			if len(rights) < many {
				return false
			}
			for _, r := range rights[len(rights)-many:] {
				if r != right {
					return false
				}
			}
			return true
		}
		for _, v := range scattered(k) {
			rights = append(rights, !wrong(l, w, v))
			next, good := Step(l, w, v)
			if want, wantGood := stepped(l, w, v); next != want || good != wantGood {
				t.Fatalf("Step(%+v, %+v, %d) = %+v, %v", l, w, v, next, good)
			}
			if w.Lost && next.Lost == inRow(true, l.Fine) || !w.Lost && next.Lost != inRow(false, l.Bad) {
				t.Fatalf("%+v: from %+v to %+v, of %v", l, w, next, rights)
			}
			if good != (!next.Lost && rights[len(rights)-1]) {
				t.Fatalf("%+v: %+v is good: %v", l, next, good)
			}
			if next.Lost && !w.Lost {
				goes++
			}
			if w.Lost && !next.Lost {
				comes++
			}
			w = next
		}
	}
	if goes < 100 || comes < 100 {
		t.Errorf("lost %d times, good again %d times: too seldom to tell", goes, comes)
	}
}

// P8.4: the longest waits, value by value: long-1 wrong ones lose nothing, one right one among them starts them anew; and so back.
func TestLongestWaits(t *testing.T) {
	l := of(0, 100, most, 0, long, long)
	var w api.Watch
	play := func(v, many int, isLost bool) {
		t.Helper()
		for i := range many {
			var good bool
			if w, good = Step(l, w, v); w.Lost != isLost || good != (v <= 100 && !isLost) {
				t.Fatalf("behind %d of %d: %+v, %v", i+1, v, w, good)
			}
		}
	}
	play(101, long-1, false)
	play(50, 1, false)
	play(101, long-1, false)
	play(101, 1, true)
	play(101, 5, true)
	play(50, long-1, true)
	play(101, 1, true)
	play(50, long-1, true)
	play(50, 1, false)
	play(50, 5, false)
}

// P8.2, P8.3: a signal that stands still is wrong from the Stuck-th same value on, and right with the next other one.
func TestStandsStill(t *testing.T) {
	for stuck := 1; stuck <= 20; stuck++ {
		l := of(0, 100, 10, stuck, long, 1)
		var w api.Watch
		for i := range 30 {
			var good bool
			if w, good = Step(l, w, 50); good != (i < stuck) || w.Same != i {
				t.Fatalf("Stuck %d: behind %d more: %+v, %v", stuck, i, w, good)
			}
		}
		if w, good := Step(l, w, 51); !good || w.Same != 0 {
			t.Errorf("Stuck %d: another one: %+v, %v", stuck, w, good)
		}
	}
}

// P8.1 to P8.3 (and R4, R5): limits and watches handed in are as they were, and what is answered does not hang on calls ahead.
func TestArgumentsStay(t *testing.T) {
	for _, l := range append(bad(), limits(), of(0, 100, 10, 3, 1, 1), of(least, most, most, most, long, long)) {
		for _, w := range watches() {
			for _, v := range []int{math.MinInt, -1, 0, 50, 51, 101, math.MaxInt} {
				limit, was := l, w
				err, isWrong := Check(limit), Wrong(limit, was, v)
				next, good := Step(limit, was, v)
				Step(limits(), next, 7)
				again, goodAgain := Step(limit, was, v)
				if limit != l || was != w {
					t.Fatalf("%+v, %+v became %+v, %+v", l, w, limit, was)
				}
				if Check(limit) != err || Wrong(limit, was, v) != isWrong || again != next || goodAgain != good {
					t.Fatalf("%+v, %+v, %d: %+v, then %+v", l, w, v, next, again)
				}
			}
		}
	}
}
