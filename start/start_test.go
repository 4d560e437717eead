package start

import (
	"maps"
	"math"
	"slices"
	"strconv"
	"testing"

	"turbojet/api"
	"turbojet/schedule"
	"turbojet/synth"
	"turbojet/table"
)

// The greatest number that engines and laws may have, and of those that have less: a lag, and the frames that laws wait.
const (
	most     = 1 << 20
	lag      = 64
	patience = 10000
)

func of(x, y []int) api.Table { return api.Table{X: x, Y: y} }

func line(x, a, b int) api.Table { return of([]int{0, x}, []int{a, b}) }

// engine is that of chapter 10.
func engine() api.Engine {
	return api.Engine{
		Fuel: line(1000, 200, 900), N2: line(1000, 0, 10000), N1: line(10000, 0, 8000), Heat: line(1000, 0, 900),
		Lag2: 8, Lag1: 8, LagE: 4, Slew: 50, Starter: 1500, Light: 1000, Lean: 100,
	}
}

// laws are those of chapter 14.
func laws() api.Laws {
	return api.Laws{
		Accel: line(10000, 300, 1000), Decel: line(10000, 0, 600), Start: line(10000, 220, 260),
		Red1: 9000, Red2: 11000, RedE: 1000, Margin: 50, Idle: 1800, Patience: 200,
	}
}

// withLean is an engine whose Fuel begins with just as much as burns.
func withLean(lean int) api.Engine {
	e := engine()
	e.Lean, e.Fuel = lean, line(1000, lean, most)
	return e
}

func withLight(light int) api.Engine {
	e := engine()
	e.Light, e.Starter = light, max(light, 1500)
	return e
}

func withStart(t api.Table) api.Laws {
	l := laws()
	l.Start = t
	return l
}

func withIdle(idle int) api.Laws {
	l := laws()
	l.Idle = idle
	return l
}

// withRedE are laws whose margin is as narrow as may be, so that RedE may be whatever there is from 1 on.
func withRedE(red int) api.Laws {
	l := laws()
	l.RedE, l.Margin = red, 1
	return l
}

func withPatience(frames int) api.Laws {
	l := laws()
	l.Patience = frames
	return l
}

// leastEngine and greatestEngine have the least, and the greatest, numbers that an engine may have; leastLaws and greatestLaws those of laws.
func leastEngine() api.Engine {
	zero := func() api.Table { return line(1, 0, 0) }
	return api.Engine{Fuel: line(1, 1, 1), N2: zero(), N1: zero(), Heat: zero(), Lag2: 1, Lag1: 1, LagE: 1, Slew: 1, Lean: 1}
}

func greatestEngine() api.Engine {
	full := func() api.Table { return of([]int{most - 1, most}, []int{most, most}) }
	return api.Engine{Fuel: full(), N2: full(), N1: full(), Heat: full(), Lag2: lag, Lag1: lag, LagE: lag, Slew: most, Starter: most, Light: most, Lean: most, Disturb: most}
}

func leastLaws() api.Laws {
	zero := func() api.Table { return line(1, 0, 0) }
	return api.Laws{Accel: zero(), Decel: zero(), Start: zero(), Red1: 1, Red2: 1, RedE: 1, Margin: 1, Idle: 1, Patience: 1}
}

func greatestLaws() api.Laws {
	full := func() api.Table { return of([]int{most - 1, most}, []int{most, most}) }
	return api.Laws{Accel: full(), Decel: full(), Start: full(), Red1: most, Red2: most, RedE: most, Margin: most, Idle: most, Patience: patience}
}

// engineNumbers and engineTables are the parts of an engine; lawNumbers and lawTables those of laws.
func engineNumbers(e *api.Engine) map[string]*int {
	return map[string]*int{"Lag2": &e.Lag2, "Lag1": &e.Lag1, "LagE": &e.LagE, "Slew": &e.Slew, "Starter": &e.Starter, "Light": &e.Light, "Lean": &e.Lean, "Disturb": &e.Disturb}
}

func engineTables(e *api.Engine) map[string]*api.Table {
	return map[string]*api.Table{"Fuel": &e.Fuel, "N2": &e.N2, "N1": &e.N1, "Heat": &e.Heat}
}

func lawNumbers(l *api.Laws) map[string]*int {
	return map[string]*int{"Red1": &l.Red1, "Red2": &l.Red2, "RedE": &l.RedE, "Margin": &l.Margin, "Idle": &l.Idle, "Patience": &l.Patience}
}

func lawTables(l *api.Laws) map[string]*api.Table {
	return map[string]*api.Table{"Accel": &l.Accel, "Decel": &l.Decel, "Start": &l.Start}
}

// points has n places 0, 1, 2 .. with the values 300, 301, 302 ..
func points(n int) api.Table {
	t := api.Table{}
	for i := range n {
		t.X, t.Y = append(t.X, i), append(t.Y, 300+i)
	}
	return t
}

// goodTables just may be: all rise, and begin with as much as the example's Lean.
func goodTables() map[string]api.Table {
	return map[string]api.Table{
		"two points":       points(2),
		"sixteen points":   points(16),
		"flat":             line(1000, 300, 300),
		"flat behind":      of([]int{0, 5, 6}, []int{300, 400, 400}),
		"a step of one":    line(1, 300, 301),
		"places to most":   line(most, 300, 400),
		"places from most": of([]int{most - 1, most}, []int{300, 400}),
		"values to most":   line(1000, 300, most),
		"values of most":   line(1000, most, most),
	}
}

// badTables just may not be, and the last ones not at all.
func badTables() map[string]api.Table {
	return map[string]api.Table{
		"one point":               points(1),
		"seventeen points":        points(17),
		"values that fall by one": line(1000, 301, 300),
		"last values that fall":   of([]int{0, 5, 6}, []int{300, 400, 399}),
		"places that stand still": of([]int{5, 5}, []int{300, 400}),
		"places that fall":        of([]int{5, 4}, []int{300, 400}),
		"a place below 0":         of([]int{-1, 1000}, []int{300, 400}),
		"a place beyond":          line(most+1, 300, 400),
		"a value below 0":         line(1000, -1, 400),
		"a value beyond":          line(1000, 300, most+1),
		"fewer values":            of([]int{0, 1, 2}, []int{300, 400}),
		"more values":             of([]int{0, 1}, []int{300, 400, 500}),
		"no places":               of(nil, []int{300, 400}),
		"no values":               of([]int{0, 1000}, nil),
		"nil lists":               {},
		"lists without elements":  of([]int{}, []int{}),
		"the ends of an int":      of([]int{math.MinInt, math.MaxInt}, []int{math.MinInt, math.MaxInt}),
	}
}

// goodEngines just may be, one part at its end.
func goodEngines() map[string]api.Engine {
	good := map[string]api.Engine{"example": engine(), "least": leastEngine(), "greatest": greatestEngine()}
	for name, ends := range map[string][]int{"Lag2": {1, lag}, "Lag1": {1, lag}, "LagE": {1, lag}, "Slew": {1, most}, "Starter": {1000, most}, "Light": {0, 1500}, "Lean": {1, 200}, "Disturb": {0, most}} {
		for _, n := range ends {
			e := engine()
			*engineNumbers(&e)[name] = n
			good[name+" at "+strconv.Itoa(n)] = e
		}
	}
	for why, t := range goodTables() {
		for name := range engineTables(&api.Engine{}) {
			e := engine()
			*engineTables(&e)[name] = t
			good[name+": "+why] = e
		}
	}
	return good
}

// badEngines may not be, each for one cause: a number one beyond its end, or far beyond, or a table; or they have nothing at all.
func badEngines() map[string]api.Engine {
	bad := map[string]api.Engine{"nothing": {}}
	put := func(from string, e api.Engine, name string, n int) {
		*engineNumbers(&e)[name] = n
		bad[from+" with "+name+" at "+strconv.Itoa(n)] = e
	}
	for name, beyond := range map[string][]int{"Lag2": {0, lag + 1}, "Lag1": {0, lag + 1}, "LagE": {0, lag + 1}, "Slew": {0, most + 1}, "Starter": {999, most + 1}, "Light": {-1, 1501}, "Lean": {0, 201}, "Disturb": {-1, most + 1}} {
		for _, n := range append(beyond, math.MinInt, -1<<32+100, 1<<32+100, math.MaxInt) {
			put("example", engine(), name, n)
		}
	}
	for name := range engineNumbers(&api.Engine{}) {
		put("least", leastEngine(), name, -1)
		put("greatest", greatestEngine(), name, most+1)
	}
	for why, t := range badTables() {
		for name := range engineTables(&api.Engine{}) {
			e := engine()
			*engineTables(&e)[name] = t
			bad[name+": "+why] = e
		}
	}
	return bad
}

// goodLaws just may be, one part at its end.
func goodLaws() map[string]api.Laws {
	good := map[string]api.Laws{"example": laws(), "least": leastLaws(), "greatest": greatestLaws()}
	for name, ends := range map[string][]int{"Red1": {50, most}, "Red2": {50, most}, "RedE": {50, most}, "Margin": {1, 1000}, "Idle": {1, most}, "Patience": {1, patience}} {
		for _, n := range ends {
			l := laws()
			*lawNumbers(&l)[name] = n
			good[name+" at "+strconv.Itoa(n)] = l
		}
	}
	for why, t := range goodTables() {
		for name := range lawTables(&api.Laws{}) {
			l := laws()
			*lawTables(&l)[name] = t
			good[name+": "+why] = l
		}
	}
	return good
}

// badLaws may not be, each for one cause: a number one beyond its end, or far beyond, or a table; or they have nothing at all.
func badLaws() map[string]api.Laws {
	bad := map[string]api.Laws{"nothing": {}}
	put := func(from string, l api.Laws, name string, n int) {
		*lawNumbers(&l)[name] = n
		bad[from+" with "+name+" at "+strconv.Itoa(n)] = l
	}
	for name, beyond := range map[string][]int{"Red1": {49, most + 1}, "Red2": {49, most + 1}, "RedE": {49, most + 1}, "Margin": {0, 1001}, "Idle": {0, most + 1}, "Patience": {0, patience + 1}} {
		for _, n := range append(beyond, math.MinInt, -1<<32+100, -1, 1<<32+100, math.MaxInt) {
			put("example", laws(), name, n)
		}
		put("least", leastLaws(), name, 0)
		put("greatest", greatestLaws(), name, most+1)
	}
	for why, t := range badTables() {
		for name := range lawTables(&api.Laws{}) {
			l := laws()
			*lawTables(&l)[name] = t
			bad[name+": "+why] = l
		}
	}
	return bad
}

// ends are numbers at the ends of an int, at those of fixed numbers, around 0, and those whose lesser half is ordinary.
func ends() []int {
	return []int{math.MinInt, math.MinInt + 1, -1 << 62, -1<<32 + 5000, -1<<31 - 1, -1 << 31, -most, -2, -1, 0, 1, 2, most - 1, most, most + 1, 1<<31 - 1, 1 << 31, 1<<32 + 5000, 1 << 62, math.MaxInt - 1, math.MaxInt}
}

// near are the numbers around each of some, those in the middle of two, and ends; in order.
func near(l ...int) []int {
	out := ends()
	for i, x := range l {
		out = append(out, x-2, x-1, x, x+1, x+2)
		if i > 0 {
			m := (l[i-1] + x) / 2
			out = append(out, m-1, m, m+1)
		}
	}
	slices.Sort(out)
	return slices.Compact(out)
}

// P16.1, P16.2: the chapter's examples.
func TestExamples(t *testing.T) {
	e, l := engine(), laws()
	if a, b := Fuel(e, l, 0), Fuel(e, l, 5000); a != 220 || b != 240 {
		t.Errorf("Fuel: %d, %d", a, b)
	}
	if !Ready(e, 1000) || Away(l, true, 1799) {
		t.Errorf("Ready: %t, Away: %t", Ready(e, 1000), Away(l, true, 1799))
	}
}

// P16.1, P16.2: what these tests take for engines and laws that may be, may be; and what they take for others may not.
func TestMay(t *testing.T) {
	if api.MaxNumber != most || api.MaxLag != lag {
		t.Errorf("MaxNumber is %d, MaxLag %d", api.MaxNumber, api.MaxLag)
	}
	for name, e := range goodEngines() {
		if got := synth.Check(e); got != api.OK {
			t.Errorf("engine: %s: %d", name, got)
		}
	}
	for name, e := range badEngines() {
		if got := synth.Check(e); got != api.ErrEngine {
			t.Errorf("no engine: %s: %d", name, got)
		}
	}
	for name, l := range goodLaws() {
		if got := schedule.Check(l); got != api.OK {
			t.Errorf("laws: %s: %d", name, got)
		}
	}
	for name, l := range badLaws() {
		if got := schedule.Check(l); got != api.ErrLaws {
			t.Errorf("no laws: %s: %d", name, got)
		}
	}
}

// fuelCase is a speed, and the fuel to start with.
type fuelCase struct{ n2, want int }

func tryFuel(t *testing.T, e api.Engine, l api.Laws, cases ...fuelCase) {
	t.Helper()
	for _, c := range cases {
		if got := Fuel(e, l, c.n2); got != c.want {
			t.Errorf("Fuel(Lean %d, %v, %d) = %d, not %d", e.Lean, l.Start, c.n2, got, c.want)
		}
	}
}

// P16.1: by hand: below the first place of Start, at each place, between two, at the last one, and beyond it; Start is nowhere below Lean.
func TestFuel(t *testing.T) {
	l := withStart(of([]int{100, 1000, 5000}, []int{150, 240, 640}))
	tryFuel(t, engine(), l,
		fuelCase{math.MinInt, 150}, fuelCase{-1<<32 + 1000, 150}, fuelCase{-1 << 31, 150}, fuelCase{-1, 150}, fuelCase{0, 150}, fuelCase{99, 150}, fuelCase{100, 150}, fuelCase{101, 150}, fuelCase{109, 150}, fuelCase{110, 151},
		fuelCase{550, 195}, fuelCase{559, 195}, fuelCase{560, 196}, fuelCase{999, 239}, fuelCase{1000, 240}, fuelCase{1001, 240}, fuelCase{1009, 240}, fuelCase{1010, 241}, fuelCase{3000, 440}, fuelCase{4999, 639},
		fuelCase{5000, 640}, fuelCase{5001, 640}, fuelCase{most, 640}, fuelCase{1<<31 - 1, 640}, fuelCase{1<<32 + 1000, 640}, fuelCase{math.MaxInt, 640})
	tryFuel(t, engine(), laws(), fuelCase{math.MinInt, 220}, fuelCase{-1, 220}, fuelCase{0, 220}, fuelCase{249, 220}, fuelCase{250, 221}, fuelCase{2500, 230}, fuelCase{9999, 259}, fuelCase{10000, 260}, fuelCase{10001, 260}, fuelCase{math.MaxInt, 260})
}

// P16.1: by hand: where Start is below Lean, just at it, and above it.
func TestFuelLean(t *testing.T) {
	l := withStart(of([]int{100, 1000, 5000}, []int{50, 140, 540}))
	tryFuel(t, withLean(100), l,
		fuelCase{math.MinInt, 100}, fuelCase{-1, 100}, fuelCase{0, 100}, fuelCase{100, 100}, fuelCase{101, 100}, fuelCase{550, 100}, fuelCase{599, 100}, fuelCase{600, 100}, fuelCase{609, 100}, fuelCase{610, 101}, fuelCase{999, 139}, fuelCase{1000, 140}, fuelCase{5000, 540}, fuelCase{math.MaxInt, 540})
	tryFuel(t, withLean(49), l, fuelCase{math.MinInt, 50}, fuelCase{0, 50}, fuelCase{109, 50}, fuelCase{110, 51})
	tryFuel(t, withLean(50), l, fuelCase{math.MinInt, 50}, fuelCase{0, 50}, fuelCase{109, 50}, fuelCase{110, 51})
	tryFuel(t, withLean(51), l, fuelCase{math.MinInt, 51}, fuelCase{0, 51}, fuelCase{119, 51}, fuelCase{120, 52})
	tryFuel(t, withLean(140), l, fuelCase{0, 140}, fuelCase{1000, 140}, fuelCase{1009, 140}, fuelCase{1010, 141})
	tryFuel(t, withLean(539), l, fuelCase{0, 539}, fuelCase{4999, 539}, fuelCase{5000, 540}, fuelCase{math.MaxInt, 540})
	tryFuel(t, withLean(540), l, fuelCase{0, 540}, fuelCase{4999, 540}, fuelCase{5000, 540}, fuelCase{math.MaxInt, 540})
	tryFuel(t, withLean(541), l, fuelCase{math.MinInt, 541}, fuelCase{0, 541}, fuelCase{4999, 541}, fuelCase{5000, 541}, fuelCase{math.MaxInt, 541})
	tryFuel(t, withLean(200), laws(), fuelCase{0, 220}, fuelCase{10000, 260})
	tryFuel(t, withLean(230), laws(), fuelCase{0, 230}, fuelCase{2500, 230}, fuelCase{2749, 230}, fuelCase{2750, 231}, fuelCase{10000, 260})
}

// P16.1: Lean at its least, and at its greatest.
func TestFuelLeanEnds(t *testing.T) {
	zero, up, full := withStart(line(1000, 0, 0)), withStart(line(most, 0, most)), withStart(line(1000, most, most))
	for _, n2 := range near(0, 1000, most) {
		tryFuel(t, withLean(1), zero, fuelCase{n2, 1})
		tryFuel(t, withLean(1), up, fuelCase{n2, min(max(n2, 1), most)})
		tryFuel(t, withLean(1), full, fuelCase{n2, most})
		tryFuel(t, withLean(most-1), up, fuelCase{n2, min(max(n2, most-1), most)})
		for _, l := range []api.Laws{zero, up, full, laws(), leastLaws(), greatestLaws()} {
			tryFuel(t, withLean(most), l, fuelCase{n2, most})
			tryFuel(t, greatestEngine(), l, fuelCase{n2, most})
		}
		tryFuel(t, leastEngine(), zero, fuelCase{n2, 1})
		tryFuel(t, leastEngine(), up, fuelCase{n2, min(max(n2, 1), most)})
	}
}

// scattered is a table whose places and values a short rule scatters; it is flat here and there.
func scattered(k int) api.Table {
	t, place, value := api.Table{}, k*37%211, k*k%130
	for i := range 2 + k%15 {
		t.X, t.Y = append(t.X, place), append(t.Y, value)
		place += 1 + (k*70+i*i*31)%190
		value += max(0, (k*110+i*i*53+i*k)%260-60)
	}
	return t
}

// started is P16.1's Fuel, word by word.
func started(e api.Engine, l api.Laws, n2 int) int {
	fuel := table.At(l.Start, n2)
	if fuel < e.Lean {
		return e.Lean
	}
	return fuel
}

// P16.1, P16.3: against the promise's words, around all places; and never less than Lean.
func TestFuelAsTold(t *testing.T) {
	below, at, above := 0, 0, 0
	for k := range 120 {
		l := withStart(scattered(k))
		y := l.Start.Y
		for _, lean := range []int{1, y[0], y[0] + 1, y[len(y)/2] - 1, y[len(y)/2], y[len(y)/2] + 1, y[len(y)-1], y[len(y)-1] + 1, most} {
			e := withLean(max(lean, 1))
			for _, n2 := range near(l.Start.X...) {
				got := Fuel(e, l, n2)
				if want := started(e, l, n2); got != want || got < e.Lean {
					t.Fatalf("Fuel(Lean %d, %v, %d) = %d, not %d", e.Lean, l.Start, n2, got, want)
				}
				switch s := table.At(l.Start, n2); {
				case s < e.Lean:
					below++
				case s == e.Lean:
					at++
				default:
					above++
				}
			}
		}
	}
	if below < 1000 || at < 1000 || above < 1000 {
		t.Errorf("below %d, at %d, above %d times: too seldom to tell", below, at, above)
	}
}

// P16.1: of each engine and all laws that just may be, there is fuel.
func TestFuelGood(t *testing.T) {
	speeds := near(0, 1000, 10000, most)
	for name, e := range goodEngines() {
		for why, l := range goodLaws() {
			for i, n2 := range speeds {
				if got, want := Fuel(e, l, n2), started(e, l, n2); got != want || got < 1 {
					t.Fatalf("%s, %s: Fuel(%d) = %d, not %d", name, why, n2, got, want)
				}
				if name != "example" && why != "example" && i == 0 {
					break
				}
			}
		}
	}
}

// P16.1: of an engine that may not be, of laws that may not be, and of both: 0.
func TestFuelBad(t *testing.T) {
	speeds := near(0, 1000, 10000, most)
	for name, e := range badEngines() {
		for _, l := range []api.Laws{laws(), leastLaws(), greatestLaws()} {
			for _, n2 := range speeds {
				tryFuel(t, e, l, fuelCase{n2, 0})
			}
		}
		if t.Failed() {
			t.Fatal(name)
		}
	}
	for name, l := range badLaws() {
		for _, e := range []api.Engine{engine(), leastEngine(), greatestEngine(), withLean(100)} {
			for _, n2 := range speeds {
				tryFuel(t, e, l, fuelCase{n2, 0})
			}
		}
		if t.Failed() {
			t.Fatal(name)
		}
	}
	for name, e := range badEngines() {
		for why, l := range badLaws() {
			if a, b := Fuel(e, l, 0), Fuel(e, l, 5000); a != 0 || b != 0 {
				t.Fatalf("%s, %s: %d, %d", name, why, a, b)
			}
		}
	}
}

// whether is what each call tells of a number; what it is asked of is handed in with a limit in it.
type whether struct {
	name   string
	limits []int                   // the least it may be, ordinary ones, and the greatest
	so     func(limit, n int) bool // of an engine, or laws, with that limit
}

// whethers are the calls that tell whether a number is at least a limit.
func whethers() []whether {
	return []whether{
		{"Ready", []int{0, 1, 2, 999, 1000, 1500, most - 1, most}, func(limit, n int) bool { return Ready(withLight(limit), n) }},
		{"Away", []int{1, 2, 1799, 1800, most - 1, most}, func(limit, n int) bool { return Away(withIdle(limit), true, n) }},
		{"Hot", []int{1, 2, 999, 1000, most - 1, most}, func(limit, n int) bool { return Hot(withRedE(limit), n) }},
		{"Hung", []int{1, 2, 199, 200, patience - 1, patience}, func(limit, n int) bool { return Hung(withPatience(limit), n) }},
	}
}

// P16.1, P16.2: at a limit less one, at it, and one above, below 0, at 0, and at the ends of int and of fixed numbers; with the limit at its ends too.
func TestLimits(t *testing.T) {
	for _, w := range whethers() {
		for _, limit := range w.limits {
			for n, want := range map[int]bool{limit - 2: false, limit - 1: false, limit: true, limit + 1: true, limit + 2: true} {
				if got := w.so(limit, n); got != want {
					t.Errorf("%s at %d, of %d: %t", w.name, limit, n, got)
				}
			}
			for _, n := range near(limit) {
				if got := w.so(limit, n); got != (n >= limit) {
					t.Errorf("%s at %d, of %d: %t", w.name, limit, n, got)
				}
			}
		}
	}
}

// P16.1: by hand: whether an engine may light, of the example and around.
func TestReady(t *testing.T) {
	for n2, want := range map[int]bool{math.MinInt: false, -1<<32 + 5000: false, -1 << 31: false, -1000: false, -1: false, 0: false, 1: false, 999: false, 1000: true, 1001: true, 1500: true, 5000: true, most: true, 1<<31 - 1: true, 1 << 31: true, 1 << 32: true, math.MaxInt: true} {
		if got := Ready(engine(), n2); got != want {
			t.Errorf("Ready(%d) = %t", n2, got)
		}
	}
	for n2, want := range map[int]bool{math.MinInt: false, -2: false, -1: false, 0: true, 1: true, math.MaxInt: true} {
		if got := Ready(withLight(0), n2); got != want {
			t.Errorf("Light at 0: Ready(%d) = %t", n2, got)
		}
	}
}

// P16.1: by hand: whether an engine has come to idle, lit; and that it never has, where it is not lit.
func TestAway(t *testing.T) {
	for n2, want := range map[int]bool{math.MinInt: false, -1<<32 + 5000: false, -1 << 31: false, -1800: false, -1: false, 0: false, 1: false, 1799: false, 1800: true, 1801: true, 5000: true, most: true, 1<<31 - 1: true, 1 << 31: true, 1 << 32: true, math.MaxInt: true} {
		if got := Away(laws(), true, n2); got != want {
			t.Errorf("Away(lit, %d) = %t", n2, got)
		}
		if Away(laws(), false, n2) {
			t.Errorf("Away(not lit, %d)", n2)
		}
	}
	for name, l := range goodLaws() {
		for _, n2 := range near(l.Idle) {
			if got := Away(l, true, n2); got != (n2 >= l.Idle) {
				t.Errorf("%s: Away(lit, %d) = %t", name, n2, got)
			}
			if Away(l, false, n2) {
				t.Errorf("%s: Away(not lit, %d)", name, n2)
			}
		}
	}
}

// P16.2: by hand: whether a start is too hot, and whether it takes too long.
func TestHotHung(t *testing.T) {
	for heat, want := range map[int]bool{math.MinInt: false, -1<<32 + 5000: false, -1 << 31: false, -1000: false, -1: false, 0: false, 950: false, 999: false, 1000: true, 1001: true, most: true, 1<<31 - 1: true, 1 << 31: true, 1 << 32: true, math.MaxInt: true} {
		if got := Hot(laws(), heat); got != want {
			t.Errorf("Hot(%d) = %t", heat, got)
		}
	}
	for since, want := range map[int]bool{math.MinInt: false, -1<<32 + 5000: false, -1 << 31: false, -200: false, -1: false, 0: false, 1: false, 199: false, 200: true, 201: true, patience: true, most: true, 1 << 30: true, 1<<31 - 1: true, 1 << 32: true, math.MaxInt: true} {
		if got := Hung(laws(), since); got != want {
			t.Errorf("Hung(%d) = %t", since, got)
		}
	}
}

// P16.1, P16.2: of each engine and all laws that just may be, each is told by its own limit, and by no other part.
func TestOwnLimits(t *testing.T) {
	for name, e := range goodEngines() {
		for _, n := range near(e.Light, e.Starter, e.Lean) {
			if got := Ready(e, n); got != (n >= e.Light) {
				t.Fatalf("%s: Ready(%d) = %t", name, n, got)
			}
		}
	}
	for name, l := range goodLaws() {
		for _, n := range near(l.Red1, l.Red2, l.RedE, l.RedE-l.Margin, l.Idle, l.Patience) {
			if a, b, c := Away(l, true, n), Hot(l, n), Hung(l, n); a != (n >= l.Idle) || b != (n >= l.RedE) || c != (n >= l.Patience) {
				t.Fatalf("%s: of %d: Away %t, Hot %t, Hung %t", name, n, a, b, c)
			}
		}
	}
}

// P16.1, P16.2: of an engine, or laws, that may not be nothing is so, also of a number that is at least the limit.
func TestNothingIsSo(t *testing.T) {
	for name, e := range badEngines() {
		for _, n := range near(0, 1000, e.Light, most) {
			if Ready(e, n) {
				t.Errorf("%s: Ready(%d)", name, n)
			}
		}
	}
	for name, l := range badLaws() {
		for _, n := range near(0, 200, 1000, 1800, l.Idle, l.RedE, l.Patience, most) {
			if Away(l, true, n) || Away(l, false, n) || Hot(l, n) || Hung(l, n) {
				t.Errorf("%s: of %d: Away %t, %t, Hot %t, Hung %t", name, n, Away(l, true, n), Away(l, false, n), Hot(l, n), Hung(l, n))
			}
		}
	}
}

// P16.3: over whole rows of speeds: never less fuel than Lean; and, as Start rises, no less at more.
func TestNeverLean(t *testing.T) {
	justLean, more := 0, 0
	for k := range 40 {
		l := withStart(scattered(k))
		y := l.Start.Y
		for _, lean := range []int{1, max(y[len(y)/2], 1), most} {
			e := withLean(lean)
			last := lean
			for n2 := -50; n2 <= l.Start.X[len(y)-1]+50; n2++ {
				now := Fuel(e, l, n2)
				if now < last {
					t.Fatalf("Fuel(Lean %d, %v, %d) = %d, behind %d", lean, l.Start, n2, now, last)
				}
				if now == lean {
					justLean++
				} else {
					more++
				}
				last = now
			}
		}
	}
	if justLean < 1000 || more < 1000 {
		t.Errorf("just lean %d, more %d times: too seldom to tell", justLean, more)
	}
}

// P16.3: over whole rows of speeds, heats and frames: what is so stays so with more; each row has both, and turns once.
func TestStaysSo(t *testing.T) {
	for _, w := range whethers() {
		for _, limit := range w.limits {
			row := ends()
			for n := max(limit-2000, -50); n <= limit+2000; n++ {
				row = append(row, n)
			}
			slices.Sort(row)
			turns, last := 0, false
			for _, n := range row {
				now := w.so(limit, n)
				if last && !now {
					t.Fatalf("%s at %d is no more so with %d", w.name, limit, n)
				}
				if now != last {
					turns++
				}
				last = now
			}
			if turns != 1 || !last {
				t.Fatalf("%s at %d turns %d times", w.name, limit, turns)
			}
		}
	}
}

// roomy gives each list of tables spare room.
func roomy(l map[string]*api.Table) {
	room := func(l []int) []int { return append(slices.Clone(l), 77, 78, 79)[:len(l)] }
	for _, t := range l {
		t.X, t.Y = room(t.X), room(t.Y)
	}
}

// all is all that tables have, their spare room included.
func all(l map[string]*api.Table) []int {
	var out []int
	for _, name := range slices.Sorted(maps.Keys(l)) {
		t := l[name]
		out = append(out, len(t.X), len(t.Y))
		out = append(append(out, t.X[:cap(t.X)]...), t.Y[:cap(t.Y)]...)
	}
	return out
}

// answer is what all calls tell.
type answer struct {
	fuel [4]int
	so   [8]bool
}

func answers(e api.Engine, l api.Laws) answer {
	return answer{
		fuel: [4]int{Fuel(e, l, math.MinInt), Fuel(e, l, 0), Fuel(e, l, 5000), Fuel(e, l, math.MaxInt)},
		so:   [8]bool{Ready(e, 999), Ready(e, 1000), Away(l, true, 1799), Away(l, true, 1800), Away(l, false, 1800), Hot(l, 999), Hot(l, 1000), Hung(l, 200)},
	}
}

// inOrder are a map's values, in order of their names.
func inOrder[T any](m map[string]T) []T {
	var out []T
	for _, name := range slices.Sorted(maps.Keys(m)) {
		out = append(out, m[name])
	}
	return out
}

// R4, R5: what is handed in is as it was behind the calls, spare room included; calls ahead change nothing; and spare room does not matter.
func TestHandedIn(t *testing.T) {
	engines := append(inOrder(goodEngines()), inOrder(badEngines())...)
	for i, l := range append(inOrder(goodLaws()), inOrder(badLaws())...) {
		e := engines[i%len(engines)]
		fullEngine, fullLaws := e, l
		roomy(engineTables(&fullEngine))
		roomy(lawTables(&fullLaws))
		wasEngine, wasLaws := all(engineTables(&fullEngine)), all(lawTables(&fullLaws))
		first := answers(fullEngine, fullLaws)
		if !slices.Equal(all(engineTables(&fullEngine)), wasEngine) || !slices.Equal(all(lawTables(&fullLaws)), wasLaws) {
			t.Fatalf("%v, %v became %v, %v", wasEngine, wasLaws, all(engineTables(&fullEngine)), all(lawTables(&fullLaws)))
		}
		answers(withLean(7), withStart(scattered(i)))
		if answers(fullEngine, fullLaws) != first {
			t.Fatalf("%v, %v: another answer, the second time", e, l)
		}
		if answers(e, l) != first {
			t.Fatalf("%v, %v: another answer, without spare room", e, l)
		}
	}
}
