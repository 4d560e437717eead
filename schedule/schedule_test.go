package schedule

import (
	"maps"
	"math"
	"slices"
	"strconv"
	"testing"

	"turbojet/api"
	"turbojet/fix"
	"turbojet/synth"
	"turbojet/table"
)

// The chapter's numbers, and the least and the greatest fixed one.
const (
	errLaws  = 140
	most     = 1 << 20
	patience = 10000
	lever    = 1000
	least    = -1 << 31
	greatest = 1<<31 - 1
)

func of(x, y []int) api.Table { return api.Table{X: x, Y: y} }

// example is the chapter's engine and its laws; what the chapter does not say of them is ordinary.
func example() (api.Engine, api.Laws) {
	return api.Engine{
		Fuel: of([]int{0, 1000}, []int{200, 900}),
		N2:   of([]int{0, 1000}, []int{0, 10000}),
		N1:   of([]int{0, 10000}, []int{0, 8000}),
		Heat: of([]int{0, 1000}, []int{0, 900}),
		Lag2: 8, Lag1: 7, LagE: 4, Slew: 50, Starter: 1500, Light: 1000, Lean: 100, Disturb: 3,
	}, api.Laws{
		Accel: of([]int{0, 10000}, []int{300, 1000}),
		Decel: of([]int{0, 10000}, []int{0, 600}),
		Start: of([]int{0, 10000}, []int{220, 260}),
		Red1:  9000, Red2: 11000, RedE: 1000, Margin: 50, Idle: 1800, Patience: 200,
	}
}

func engine() api.Engine { e, _ := example(); return e }

func laws() api.Laws { _, l := example(); return l }

// withFuel is the example's engine with another Fuel, and the least Lean, so that Fuel may be whatever rises from 1 on.
func withFuel(t api.Table) api.Engine {
	e := engine()
	e.Fuel, e.Lean = t, 1
	return e
}

func withSlew(slew int) api.Engine {
	e := engine()
	e.Slew = slew
	return e
}

// crossed have more in Decel than in Accel at low speeds, as much at 600, and less at high ones; their places are not the same.
func crossed() api.Laws {
	l := laws()
	l.Accel = of([]int{100, 1000, 9000}, []int{300, 400, 1200})
	l.Decel = of([]int{0, 500, 8000}, []int{350, 350, 725})
	return l
}

// wrongWay have more in Decel than in Accel at all speeds.
func wrongWay() api.Laws {
	l := laws()
	l.Accel, l.Decel = of([]int{0, 1000}, []int{100, 200}), of([]int{0, 1000}, []int{500, 600})
	return l
}

// widest have the greatest numbers that laws may have; leastest the least ones.
func widest() api.Laws {
	return api.Laws{
		Accel: of([]int{0, most}, []int{most, most}), Decel: of([]int{0, most}, []int{0, most}), Start: of([]int{most - 1, most}, []int{0, most}),
		Red1: most, Red2: most, RedE: most, Margin: most, Idle: most, Patience: patience,
	}
}

func leastest() api.Laws {
	zero := func() api.Table { return of([]int{0, 1}, []int{0, 0}) }
	return api.Laws{Accel: zero(), Decel: zero(), Start: zero(), Red1: 1, Red2: 1, RedE: 1, Margin: 1, Idle: 1, Patience: 1}
}

// scattered is a table whose places and values a short rule scatters; it is flat here and there.
func scattered(k int) api.Table {
	t, place, value := api.Table{}, k*37%211, 1+k*k%130
	for i := range 2 + k%15 {
		t.X, t.Y = append(t.X, place), append(t.Y, value)
		place += 1 + (k*70+i*i*31)%190
		value += max(0, (k*110+i*i*53+i*k)%260-60)
	}
	return t
}

// manyLaws may be.
func manyLaws() []api.Laws {
	l := []api.Laws{laws(), crossed(), wrongWay(), widest(), leastest()}
	for k := range 60 {
		x := laws()
		x.Accel, x.Decel, x.Start = scattered(3*k), scattered(3*k+1), scattered(3*k+2)
		l = append(l, x)
	}
	return l
}

// manyEngines may be.
func manyEngines() []api.Engine {
	l := []api.Engine{engine(), withSlew(1), withSlew(most), withFuel(of([]int{500, 2000}, []int{200, 900})), withFuel(of([]int{0, 1}, []int{1, 1})), withFuel(of([]int{0, 500, most}, []int{1, 5000, most})), withFuel(of([]int{lever - 1, lever, lever + 1}, []int{10, 20, most}))}
	for k := range 60 {
		e := withFuel(scattered(k))
		e.Slew = 1 + k*k*7%300
		l = append(l, e)
	}
	return l
}

// tables are those of laws.
func tables() map[string]func(l *api.Laws) *api.Table {
	return map[string]func(l *api.Laws) *api.Table{
		"Accel": func(l *api.Laws) *api.Table { return &l.Accel },
		"Decel": func(l *api.Laws) *api.Table { return &l.Decel },
		"Start": func(l *api.Laws) *api.Table { return &l.Start },
	}
}

// numbers are those of laws.
func numbers() map[string]func(l *api.Laws) *int {
	return map[string]func(l *api.Laws) *int{
		"Red1":     func(l *api.Laws) *int { return &l.Red1 },
		"Red2":     func(l *api.Laws) *int { return &l.Red2 },
		"RedE":     func(l *api.Laws) *int { return &l.RedE },
		"Margin":   func(l *api.Laws) *int { return &l.Margin },
		"Idle":     func(l *api.Laws) *int { return &l.Idle },
		"Patience": func(l *api.Laws) *int { return &l.Patience },
	}
}

// withTable and withNumber are laws with one part other than it was.
func withTable(l api.Laws, name string, t api.Table) api.Laws {
	*tables()[name](&l) = t
	return l
}

func withNumber(l api.Laws, name string, n int) api.Laws {
	*numbers()[name](&l) = n
	return l
}

// line has n places 0, 1, 2 .. with the values 300, 301, 302 ..
func line(n int) api.Table {
	t := api.Table{}
	for i := range n {
		t.X, t.Y = append(t.X, i), append(t.Y, 300+i)
	}
	return t
}

// badTables may be none of those of laws.
func badTables() map[string]api.Table {
	return map[string]api.Table{
		"nil lists":               {},
		"lists without elements":  of([]int{}, []int{}),
		"no places":               of(nil, []int{300, 400}),
		"no values":               of([]int{0, 1000}, nil),
		"one point":               line(1),
		"17 points":               line(17),
		"fewer values":            of([]int{0, 1, 2}, []int{300, 400}),
		"more values":             of([]int{0, 1}, []int{300, 400, 500}),
		"places that stand still": of([]int{5, 5}, []int{300, 400}),
		"places that fall":        of([]int{5, 4}, []int{300, 400}),
		"last places that fall":   of([]int{0, 5, 4}, []int{300, 400, 500}),
		"a place below 0":         of([]int{-1, 5}, []int{300, 400}),
		"a place beyond":          of([]int{0, most + 1}, []int{300, 400}),
		"a value below 0":         of([]int{0, 5}, []int{-1, 400}),
		"a value beyond":          of([]int{0, 5}, []int{300, most + 1}),
		"the ends of an int":      of([]int{math.MinInt, math.MaxInt}, []int{300, math.MaxInt}),
		"values that fall":        of([]int{0, 5}, []int{301, 300}),
		"last values that fall":   of([]int{0, 5, 6}, []int{300, 400, 399}),
		"a value that falls":      of([]int{0, 5, 6, 7}, []int{300, 400, 399, 500}),
		"values down to 0":        of([]int{0, most}, []int{most, 0}),
	}
}

// goodTables may be each of those of laws.
func goodTables() []api.Table {
	return []api.Table{
		line(2), line(3), line(15), line(16),
		of([]int{0, most}, []int{0, 0}), of([]int{7, 9}, []int{most, most}), of([]int{0, most}, []int{0, most}), of([]int{most - 1, most}, []int{300, 301}), of([]int{3, 5, 8, 9}, []int{300, 300, 400, 400}),
	}
}

// beyond are numbers that no number of laws may be.
func beyond() []int {
	return []int{math.MinInt, math.MinInt + 1, -1 << 32, -1<<32 + 100, -most, -1, 0, most + 1, 1 << 31, 1<<32 + 100, math.MaxInt - 1, math.MaxInt}
}

// badLaws differ from ones that may be in one part alone; or have nothing at all.
func badLaws() map[string]api.Laws {
	bad := map[string]api.Laws{"nothing": {}}
	for name := range tables() {
		for why, t := range badTables() {
			bad[name+": "+why] = withTable(laws(), name, t)
		}
	}
	for name := range numbers() {
		for _, n := range beyond() {
			for from, l := range map[string]api.Laws{"example": laws(), "widest": widest(), "leastest": leastest()} {
				bad[from+" with "+name+" at "+strconv.Itoa(n)] = withNumber(l, name, n)
			}
		}
	}
	bad["red below the margin"] = withNumber(laws(), "RedE", 49)
	bad["a patience too long"] = withNumber(laws(), "Patience", patience+1)
	bare := laws()
	bare.Accel, bare.Decel, bare.Start = api.Table{}, api.Table{}, api.Table{}
	bad["no table at all"] = bare
	return bad
}

// badEngines may not be, each for one cause.
func badEngines() map[string]api.Engine {
	bad := map[string]api.Engine{"nothing": {}}
	for name, change := range map[string]func(e *api.Engine){
		"no Fuel":               func(e *api.Engine) { e.Fuel = api.Table{} },
		"Fuel below 0":          func(e *api.Engine) { e.Fuel = of([]int{0, 1000}, []int{-5, 900}) },
		"Fuel below 0 behind":   func(e *api.Engine) { e.Fuel = of([]int{-5, 1000}, []int{200, 900}) },
		"Fuel that falls":       func(e *api.Engine) { e.Fuel = of([]int{0, 1000}, []int{900, 200}) },
		"Fuel beyond":           func(e *api.Engine) { e.Fuel = of([]int{0, 1000}, []int{200, most + 1}) },
		"Fuel of nothing":       func(e *api.Engine) { e.Fuel = of([]int{0, 1000}, []int{0, 900}) },
		"N2 that falls":         func(e *api.Engine) { e.N2 = of([]int{0, 1000}, []int{900, 200}) },
		"no N1":                 func(e *api.Engine) { e.N1 = api.Table{} },
		"Heat of unequal lists": func(e *api.Engine) { e.Heat = of([]int{0, 1}, []int{1}) },
		"no lag":                func(e *api.Engine) { e.Lag2 = 0 },
		"no slew":               func(e *api.Engine) { e.Slew = 0 },
		"slew below 0":          func(e *api.Engine) { e.Slew = -50 },
		"slew beyond":           func(e *api.Engine) { e.Slew = most + 1 },
		"the least slew":        func(e *api.Engine) { e.Slew = math.MinInt },
		"the greatest slew":     func(e *api.Engine) { e.Slew = math.MaxInt },
		"light beyond starter":  func(e *api.Engine) { e.Light = 1501 },
		"too lean":              func(e *api.Engine) { e.Lean = 201 },
		"disturbed beyond":      func(e *api.Engine) { e.Disturb = most + 1 },
	} {
		e := engine()
		change(&e)
		bad[name] = e
	}
	return bad
}

// outsiders are numbers that no table, and no lever, reaches.
func outsiders() []int {
	return []int{math.MinInt, math.MinInt + 1, -1 << 62, -1<<32 + 500, least - 1, least, least + 1, -most, -2, -1, most + 1, greatest - 1, greatest, greatest + 1, 1<<32 + 500, 1 << 62, math.MaxInt - 1, math.MaxInt}
}

// near are the numbers around each of some lists, those in the middle of two, and outsiders; in order.
func near(lists ...[]int) []int {
	out := outsiders()
	for _, l := range lists {
		for i, x := range l {
			out = append(out, x-2, x-1, x, x+1, x+2)
			if i > 0 {
				m := (l[i-1] + x) / 2
				out = append(out, m-1, m, m+1)
			}
		}
	}
	slices.Sort(out)
	return slices.Compact(out)
}

// P14.1: the chapter's numbers.
func TestNumbers(t *testing.T) {
	if api.ErrLaws != errLaws || api.OK != 0 {
		t.Errorf("ErrLaws is %d, OK %d", api.ErrLaws, api.OK)
	}
	if api.MaxNumber != most || api.MaxLever != lever || maxPatience != patience {
		t.Errorf("MaxNumber is %d, MaxLever %d, maxPatience %d", api.MaxNumber, api.MaxLever, maxPatience)
	}
}

// P14.2: the chapter's examples.
func TestExamples(t *testing.T) {
	e, l := example()
	if a, b := Allow(l, 5000, 900), Allow(l, 5000, 10); a != 650 || b != 300 {
		t.Errorf("Allow: %d, %d", a, b)
	}
	if a, b := Next(e, l, 5000, 400, 900), Next(e, l, 5000, 640, 900); a != 450 || b != 650 {
		t.Errorf("Next: %d, %d", a, b)
	}
}

// P14.1: laws that may be.
func TestCheckOK(t *testing.T) {
	for i, l := range manyLaws() {
		if got := Check(l); got != api.OK {
			t.Errorf("%d: %v: %d", i, l, got)
		}
	}
}

// P14.1: laws that may not be.
func TestCheckBad(t *testing.T) {
	for name, l := range badLaws() {
		if got := Check(l); got != errLaws {
			t.Errorf("%s: %d", name, got)
		}
	}
}

// P14.1: each table of laws may be each table that rises, whatever the others are; and none of the others.
func TestCheckTables(t *testing.T) {
	for name := range tables() {
		for _, l := range []api.Laws{laws(), crossed(), widest(), leastest()} {
			for _, x := range goodTables() {
				if got := Check(withTable(l, name, x)); got != api.OK {
					t.Errorf("%s, %v: %d", name, x, got)
				}
			}
			for why, x := range badTables() {
				if got := Check(withTable(l, name, x)); got != errLaws {
					t.Errorf("%s, %s: %d", name, why, got)
				}
			}
		}
	}
}

// numberCase is a number that one part of laws may be, or may not.
type numberCase struct {
	n   int
	may bool
}

func tryNumbers(t *testing.T, l api.Laws, name string, cases ...numberCase) {
	t.Helper()
	for _, n := range []int{math.MinInt, -1 << 32, -1<<32 + 100, least, -1, 0, most + 1, greatest, 1<<32 + 100, math.MaxInt} {
		cases = append(cases, numberCase{n, false})
	}
	for _, c := range cases {
		want := api.Errno(errLaws)
		if c.may {
			want = api.OK
		}
		if got := Check(withNumber(l, name, c.n)); got != want {
			t.Errorf("%s at %d: %d, not %d", name, c.n, got, want)
		}
	}
}

// P14.1: Margin at its ends, and at the least of Red1, Red2 and RedE, whichever that is.
func TestCheckMargin(t *testing.T) {
	tryNumbers(t, widest(), "Margin", numberCase{1, true}, numberCase{2, true}, numberCase{50, true}, numberCase{most - 1, true}, numberCase{most, true})
	tryNumbers(t, laws(), "Margin", numberCase{1, true}, numberCase{999, true}, numberCase{1000, true}, numberCase{1001, false}, numberCase{most, false})
	for _, name := range []string{"Red1", "Red2", "RedE"} {
		tryNumbers(t, withNumber(widest(), name, 500), "Margin", numberCase{1, true}, numberCase{499, true}, numberCase{500, true}, numberCase{501, false}, numberCase{most, false})
		if got := Check(withNumber(withNumber(widest(), name, 0), "Margin", 0)); got != errLaws {
			t.Errorf("Margin and %s 0: %d", name, got)
		}
	}
	none := withNumber(leastest(), "Margin", 0)
	none.Red1, none.Red2, none.RedE = 0, 0, 0
	below := none
	below.Margin, below.Red1 = -1, -1
	if Check(none) != errLaws || Check(below) != errLaws {
		t.Errorf("no Margin: %d, %d", Check(none), Check(below))
	}
}

// P14.1: Red1, Red2 and RedE one below Margin, at it, at MaxNumber, and one beyond.
func TestCheckReds(t *testing.T) {
	for _, name := range []string{"Red1", "Red2", "RedE"} {
		tryNumbers(t, laws(), name, numberCase{1, false}, numberCase{49, false}, numberCase{50, true}, numberCase{51, true}, numberCase{1000, true}, numberCase{most - 1, true}, numberCase{most, true})
		tryNumbers(t, leastest(), name, numberCase{1, true}, numberCase{2, true}, numberCase{most, true})
		tryNumbers(t, widest(), name, numberCase{1, false}, numberCase{most - 1, false}, numberCase{most, true})
	}
}

// P14.1: Idle at its ends; no other part bounds it.
func TestCheckIdle(t *testing.T) {
	for _, l := range []api.Laws{laws(), crossed(), widest(), leastest()} {
		tryNumbers(t, l, "Idle", numberCase{1, true}, numberCase{2, true}, numberCase{49, true}, numberCase{12000, true}, numberCase{most - 1, true}, numberCase{most, true})
	}
}

// P14.1: Patience at its ends; no other part bounds it.
func TestCheckPatience(t *testing.T) {
	for _, l := range []api.Laws{laws(), crossed(), widest(), leastest()} {
		tryNumbers(t, l, "Patience", numberCase{1, true}, numberCase{2, true}, numberCase{9999, true}, numberCase{10000, true}, numberCase{10001, false}, numberCase{most, false})
	}
}

// leverCase is a lever, and the fuel that it asks for.
type leverCase struct{ lever, want int }

func tryAsk(t *testing.T, e api.Engine, cases ...leverCase) {
	t.Helper()
	for _, c := range cases {
		if got := Ask(e, c.lever); got != c.want {
			t.Errorf("Ask(%v, %d) = %d, not %d", e.Fuel, c.lever, got, c.want)
		}
	}
}

// P14.2: by hand: levers below 0, at 0, at and between places, at MaxLever, and beyond it.
func TestAsk(t *testing.T) {
	tryAsk(t, engine(), leverCase{math.MinInt, 200}, leverCase{-1<<32 + 500, 200}, leverCase{least, 200}, leverCase{-1, 200}, leverCase{0, 200}, leverCase{1, 200}, leverCase{2, 201}, leverCase{499, 549}, leverCase{500, 550}, leverCase{501, 550}, leverCase{502, 551}, leverCase{999, 899}, leverCase{1000, 900}, leverCase{1001, 900}, leverCase{5000, 900}, leverCase{greatest, 900}, leverCase{1<<32 + 500, 900}, leverCase{math.MaxInt, 900})
	bent := withFuel(of([]int{100, 400, 700}, []int{20, 50, 350}))
	tryAsk(t, bent, leverCase{math.MinInt, 20}, leverCase{-5, 20}, leverCase{0, 20}, leverCase{99, 20}, leverCase{100, 20}, leverCase{101, 20}, leverCase{110, 21}, leverCase{399, 49}, leverCase{400, 50}, leverCase{401, 51}, leverCase{550, 200}, leverCase{699, 349}, leverCase{700, 350}, leverCase{701, 350}, leverCase{1000, 350}, leverCase{math.MaxInt, 350})
}

// P14.2: the lever is clamped, not the fuel: Fuel's places beyond MaxLever are not come to, and its values may be beyond MaxLever, or below it.
func TestAskBeyond(t *testing.T) {
	far := withFuel(of([]int{500, 2000}, []int{200, 900}))
	tryAsk(t, far, leverCase{-1, 200}, leverCase{0, 200}, leverCase{500, 200}, leverCase{999, 432}, leverCase{1000, 433}, leverCase{1001, 433}, leverCase{1500, 433}, leverCase{2000, 433}, leverCase{math.MaxInt, 433})
	farther := withFuel(of([]int{1001, 2000}, []int{200, 900}))
	tryAsk(t, farther, leverCase{math.MinInt, 200}, leverCase{0, 200}, leverCase{1000, 200}, leverCase{1500, 200}, leverCase{math.MaxInt, 200})
	at := withFuel(of([]int{999, 1000, 1001}, []int{10, 20, 900}))
	tryAsk(t, at, leverCase{0, 10}, leverCase{998, 10}, leverCase{999, 10}, leverCase{1000, 20}, leverCase{1001, 20}, leverCase{math.MaxInt, 20})
	rich := withFuel(of([]int{0, 1000}, []int{2000, 5000}))
	tryAsk(t, rich, leverCase{math.MinInt, 2000}, leverCase{0, 2000}, leverCase{1, 2003}, leverCase{500, 3500}, leverCase{999, 4997}, leverCase{1000, 5000}, leverCase{1001, 5000})
	richest := withFuel(of([]int{0, 1000}, []int{most, most}))
	tryAsk(t, richest, leverCase{-1, most}, leverCase{0, most}, leverCase{1000, most}, leverCase{math.MaxInt, most})
	poorest := withFuel(of([]int{0, most}, []int{1, 1}))
	tryAsk(t, poorest, leverCase{-1, 1}, leverCase{0, 1}, leverCase{1000, 1}, leverCase{math.MaxInt, 1})
}

// P14.2: against the promise's words.
func TestAskAsTold(t *testing.T) {
	for _, e := range manyEngines() {
		for _, x := range append(near(e.Fuel.X), 0, 1, 998, 999, 1000, 1001, 1002) {
			if got, want := Ask(e, x), table.At(e.Fuel, min(max(x, 0), lever)); got != want {
				t.Fatalf("Ask(%v, %d) = %d, not %d", e.Fuel, x, got, want)
			}
		}
	}
}

// P14.2: an engine that may not be is asked for nothing.
func TestAskBad(t *testing.T) {
	for name, e := range badEngines() {
		for _, x := range append(outsiders(), 0, 1, 500, 999, 1000, 1001) {
			if got := Ask(e, x); got != 0 {
				t.Fatalf("%s: Ask(%d) = %d", name, x, got)
			}
		}
	}
}

// allowCase is a speed, a fuel, and what of it is allowed.
type allowCase struct{ n2, fuel, want int }

func tryAllow(t *testing.T, l api.Laws, cases ...allowCase) {
	t.Helper()
	for _, c := range cases {
		if got := Allow(l, c.n2, c.fuel); got != c.want {
			t.Errorf("Allow(%v, %v, %d, %d) = %d, not %d", l.Accel, l.Decel, c.n2, c.fuel, got, c.want)
		}
	}
}

// P14.2: by hand: below Decel, at it, between both, at Accel and beyond it, at one speed.
func TestAllow(t *testing.T) {
	tryAllow(t, laws(),
		allowCase{5000, math.MinInt, 300}, allowCase{5000, -1<<32 + 400, 300}, allowCase{5000, least, 300}, allowCase{5000, -1, 300}, allowCase{5000, 0, 300}, allowCase{5000, 1, 300}, allowCase{5000, 299, 300}, allowCase{5000, 300, 300}, allowCase{5000, 301, 301}, allowCase{5000, 400, 400},
		allowCase{5000, 649, 649}, allowCase{5000, 650, 650}, allowCase{5000, 651, 650}, allowCase{5000, 900, 650}, allowCase{5000, most, 650}, allowCase{5000, greatest, 650}, allowCase{5000, 1<<32 + 400, 650}, allowCase{5000, math.MaxInt, 650})
	tryAllow(t, widest(), allowCase{0, -1, 0}, allowCase{0, 0, 0}, allowCase{0, most, most}, allowCase{0, most + 1, most}, allowCase{77, 76, 77}, allowCase{77, 78, 78}, allowCase{most, 0, most}, allowCase{most, math.MaxInt, most}, allowCase{math.MaxInt, math.MinInt, most})
	tryAllow(t, leastest(), allowCase{0, 0, 0}, allowCase{0, 5, 0}, allowCase{5000, -5, 0}, allowCase{5000, math.MaxInt, 0}, allowCase{5000, math.MinInt, 0})
}

// P14.2: by hand: speeds below the first place, at places, between them, and beyond the last one.
func TestAllowSpeeds(t *testing.T) {
	for _, c := range []struct{ n2, low, high int }{
		{math.MinInt, 0, 300}, {-1<<32 + 5000, 0, 300}, {least, 0, 300}, {-1, 0, 300}, {0, 0, 300}, {1, 0, 300}, {2, 0, 300}, {15, 0, 301}, {17, 1, 301}, {3333, 199, 533}, {5000, 300, 650}, {9999, 599, 999}, {10000, 600, 1000}, {10001, 600, 1000}, {most, 600, 1000}, {greatest, 600, 1000}, {1<<32 + 5000, 600, 1000}, {math.MaxInt, 600, 1000},
	} {
		tryAllow(t, laws(), allowCase{c.n2, math.MinInt, c.low}, allowCase{c.n2, c.low - 1, c.low}, allowCase{c.n2, c.low, c.low}, allowCase{c.n2, c.low + 1, c.low + 1}, allowCase{c.n2, c.high - 1, c.high - 1}, allowCase{c.n2, c.high, c.high}, allowCase{c.n2, c.high + 1, c.high}, allowCase{c.n2, math.MaxInt, c.high})
	}
}

// P14.2: by hand: where Decel is greater than Accel, it is Decel, whatever the fuel; where both are one, that.
func TestAllowCrossed(t *testing.T) {
	fuels := []int{math.MinInt, -1, 0, 299, 300, 301, 343, 344, 345, 349, 350, 351, 354, 355, 356, 900, most, math.MaxInt}
	for n2, want := range map[int]int{math.MinInt: 350, -1: 350, 0: 350, 99: 350, 100: 350, 101: 350, 500: 350, 520: 351, 560: 353, 580: 354, 600: 355} {
		for _, fuel := range fuels {
			tryAllow(t, crossed(), allowCase{n2, fuel, want})
		}
	}
	tryAllow(t, crossed(),
		allowCase{1000, 0, 375}, allowCase{1000, 374, 375}, allowCase{1000, 375, 375}, allowCase{1000, 376, 376}, allowCase{1000, 399, 399}, allowCase{1000, 400, 400}, allowCase{1000, 401, 400}, allowCase{1000, 900, 400},
		allowCase{8000, 724, 725}, allowCase{8000, 726, 726}, allowCase{8000, 1100, 1100}, allowCase{8000, 1101, 1100}, allowCase{9000, 0, 725}, allowCase{9000, 1200, 1200}, allowCase{9000, 1201, 1200}, allowCase{9001, 2000, 1200})
	for _, fuel := range append(fuels, 100, 150, 200, 550, 600) {
		tryAllow(t, wrongWay(), allowCase{-1, fuel, 500}, allowCase{0, fuel, 500}, allowCase{500, fuel, 550}, allowCase{1000, fuel, 600}, allowCase{2000, fuel, 600})
	}
}

// allowed is P14.2, and P1.3, word by word.
func allowed(l api.Laws, n2, fuel int) int {
	low, high := table.At(l.Decel, n2), table.At(l.Accel, n2)
	if fuel < low || high < low {
		return low
	}
	return min(fuel, high)
}

// P14.2: against the promise's words, around all places and values of laws.
func TestAllowAsTold(t *testing.T) {
	lows, betweens, highs, crossings := 0, 0, 0, 0
	for _, l := range manyLaws() {
		fuels := near(l.Accel.Y, l.Decel.Y)
		for _, n2 := range near(l.Accel.X, l.Decel.X) {
			low, high := table.At(l.Decel, n2), table.At(l.Accel, n2)
			for _, fuel := range fuels {
				if got, want := Allow(l, n2, fuel), allowed(l, n2, fuel); got != want {
					t.Fatalf("Allow(%v, %v, %d, %d) = %d, not %d", l.Accel, l.Decel, n2, fuel, got, want)
				}
				switch {
				case high < low:
					crossings++
				case fuel < low:
					lows++
				case fuel > high:
					highs++
				default:
					betweens++
				}
			}
		}
	}
	if lows < 1000 || betweens < 1000 || highs < 1000 || crossings < 1000 {
		t.Errorf("below %d, between %d, beyond %d, crossed %d times: too seldom to tell", lows, betweens, highs, crossings)
	}
}

// P14.2: Start, and the numbers of laws, allow no more and no less.
func TestAllowNoOther(t *testing.T) {
	l := widest()
	l.Accel, l.Decel = laws().Accel, laws().Decel
	for _, n2 := range near(l.Accel.X) {
		for _, fuel := range near(l.Accel.Y, l.Decel.Y) {
			if a, b := Allow(laws(), n2, fuel), Allow(l, n2, fuel); a != b {
				t.Fatalf("at %d, of %d: %d, and %d", n2, fuel, a, b)
			}
		}
	}
}

// P14.2: of laws that may not be nothing is allowed.
func TestAllowBad(t *testing.T) {
	for name, l := range badLaws() {
		for _, n2 := range []int{math.MinInt, -1, 0, 1, 5000, 10000, most, math.MaxInt} {
			for _, fuel := range []int{math.MinInt, -1, 0, 1, 400, 900, most, math.MaxInt} {
				if got := Allow(l, n2, fuel); got != 0 {
					t.Fatalf("%s: Allow(%d, %d) = %d", name, n2, fuel, got)
				}
			}
		}
	}
}

// nextCase is a valve, and where it goes.
type nextCase struct{ valve, want int }

func tryNext(t *testing.T, e api.Engine, l api.Laws, n2, fuel int, cases ...nextCase) {
	t.Helper()
	for _, c := range cases {
		if got := Next(e, l, n2, c.valve, fuel); got != c.want {
			t.Errorf("Next(slew %d, n2 %d, valve %d, fuel %d) = %d, not %d", e.Slew, n2, c.valve, fuel, got, c.want)
		}
	}
}

// P14.2: by hand: from below what is allowed, at it, and above it, by less than Slew, by just Slew, and by more; with Slew at its ends too.
func TestNext(t *testing.T) {
	to650 := []nextCase{{math.MinInt, least + 50}, {-1<<32 + 640, least + 50}, {least, least + 50}, {-51, -1}, {-50, 0}, {-1, 49}, {0, 50}, {1, 51}, {400, 450}, {599, 649}, {600, 650}, {601, 650}, {640, 650}, {649, 650}, {650, 650}, {651, 650}, {660, 650}, {699, 650}, {700, 650}, {701, 651}, {900, 850}, {most, most - 50}, {greatest, greatest - 50}, {1<<32 + 640, greatest - 50}, {math.MaxInt, greatest - 50}}
	for _, fuel := range []int{650, 651, 900, math.MaxInt} {
		tryNext(t, engine(), laws(), 5000, fuel, to650...)
	}
	for _, fuel := range []int{math.MinInt, -1, 0, 299, 300} {
		tryNext(t, engine(), laws(), 5000, fuel, nextCase{249, 299}, nextCase{250, 300}, nextCase{251, 300}, nextCase{300, 300}, nextCase{349, 300}, nextCase{350, 300}, nextCase{351, 301}, nextCase{640, 590})
	}
	tryNext(t, engine(), laws(), 5000, 400, nextCase{349, 399}, nextCase{350, 400}, nextCase{399, 400}, nextCase{400, 400}, nextCase{401, 400}, nextCase{450, 400}, nextCase{451, 401})
	tryNext(t, withSlew(1), laws(), 5000, 900, nextCase{math.MinInt, least + 1}, nextCase{-1, 0}, nextCase{0, 1}, nextCase{648, 649}, nextCase{649, 650}, nextCase{650, 650}, nextCase{651, 650}, nextCase{652, 651}, nextCase{math.MaxInt, greatest - 1})
	tryNext(t, withSlew(most), laws(), 5000, 900, nextCase{math.MinInt, least + most}, nextCase{650 - most - 1, 649}, nextCase{650 - most, 650}, nextCase{-1, 650}, nextCase{0, 650}, nextCase{650, 650}, nextCase{most, 650}, nextCase{650 + most, 650}, nextCase{650 + most + 1, 651}, nextCase{math.MaxInt, greatest - most})
}

// P14.2: by hand: what is allowed hangs on the speed, not on the valve.
func TestNextSpeeds(t *testing.T) {
	e, l := engine(), laws()
	for _, c := range []struct{ n2, fuel, valve, want int }{
		{math.MinInt, 900, 290, 300}, {-1, 900, 290, 300}, {0, 900, 290, 300}, {0, 900, 360, 310}, {0, -5, 40, 0}, {0, 0, 60, 10}, {3333, 900, 500, 533}, {3333, 0, 240, 199}, {10000, 5000, 990, 1000}, {10001, 5000, 990, 1000}, {math.MaxInt, 5000, 990, 1000}, {10000, 0, 640, 600}, {5000, 5000, 5000, 4950}, {5000, 650, 300, 350},
	} {
		tryNext(t, e, l, c.n2, c.fuel, nextCase{c.valve, c.want})
	}
	for _, fuel := range []int{0, 320, 900} {
		tryNext(t, e, crossed(), 100, fuel, nextCase{280, 330}, nextCase{300, 350}, nextCase{340, 350}, nextCase{350, 350}, nextCase{420, 370})
	}
}

// gone is P14.2's Next, and P1.3, word by word.
func gone(e api.Engine, l api.Laws, n2, valve, fuel int) int {
	from, to := min(max(valve, least), greatest), allowed(l, n2, fuel)
	if from < to {
		return min(from+e.Slew, to)
	}
	return max(from-e.Slew, to)
}

// P14.2, P14.3: against the promises' words: a valve goes on by no more than Slew, toward what is allowed, and not past it.
func TestNextAsTold(t *testing.T) {
	ups, downs, stays, arrivals := 0, 0, 0, 0
	engines := manyEngines()
	for i, l := range manyLaws() {
		for j, n2 := range near(l.Accel.X, l.Decel.X) {
			e := engines[(7*i+j)%len(engines)]
			for k, fuel := range near(l.Accel.Y, l.Decel.Y) {
				to := Allow(l, n2, fuel)
				valves := append(outsiders(), 0, to, to-1, to+1, to-e.Slew, to+e.Slew, to-e.Slew-1, to+e.Slew+1)
				valve := valves[(i+j+5*k)%len(valves)]
				got, from := Next(e, l, n2, valve, fuel), fix.Sat(valve)
				if want := gone(e, l, n2, valve, fuel); got != want {
					t.Fatalf("Next(slew %d, %v, %v, %d, %d, %d) = %d, not %d", e.Slew, l.Accel, l.Decel, n2, valve, fuel, got, want)
				}
				if way := max(got-from, from-got); way > e.Slew || got > max(from, to) || got < min(from, to) {
					t.Fatalf("Next(slew %d, .., %d, %d, %d) = %d: allowed is %d", e.Slew, n2, valve, fuel, got, to)
				}
				switch {
				case from == to:
					stays++
				case got == to:
					arrivals++
				case got > from:
					ups++
				default:
					downs++
				}
			}
		}
	}
	if ups < 1000 || downs < 1000 || stays < 1000 || arrivals < 1000 {
		t.Errorf("up %d, down %d, at it %d, gets there %d times: too seldom to tell", ups, downs, stays, arrivals)
	}
}

// P14.2: of an engine that may not be, of laws that may not be, and of both: 0, and no place that the valve would go by.
func TestNextBad(t *testing.T) {
	zero := func(e api.Engine, l api.Laws, name string) {
		t.Helper()
		for _, n2 := range []int{math.MinInt, 0, 5000, math.MaxInt} {
			for _, valve := range []int{math.MinInt, -60, 0, 60, 640, 1000, math.MaxInt} {
				for _, fuel := range []int{math.MinInt, 0, 400, math.MaxInt} {
					if got := Next(e, l, n2, valve, fuel); got != 0 {
						t.Fatalf("%s: Next(%d, %d, %d) = %d", name, n2, valve, fuel, got)
					}
				}
			}
		}
	}
	bad := badLaws()
	for name, e := range badEngines() {
		zero(e, laws(), name)
		for _, why := range []string{"nothing", "Accel: nil lists", "red below the margin", "a patience too long"} {
			zero(e, bad[why], name+"; "+why)
		}
	}
	for name, l := range bad {
		zero(engine(), l, name)
	}
}

// P14.3: a lever that is further asks for no less, over whole rows of levers; and for more, somewhere.
func TestFurtherLever(t *testing.T) {
	more := 0
	for _, e := range manyEngines() {
		row := outsiders()
		for x := -50; x <= lever+50; x++ {
			row = append(row, x)
		}
		slices.Sort(row)
		last := Ask(e, row[0])
		for _, x := range row[1:] {
			now := Ask(e, x)
			if now < last {
				t.Fatalf("%v: Ask(%d) = %d, behind %d", e.Fuel, x, now, last)
			}
			if now > last {
				more++
			}
			last = now
		}
	}
	if more < 1000 {
		t.Errorf("a further lever asks for more %d times: too seldom to tell", more)
	}
}

// P14.3: asked again and again, the valve goes on by just Slew till it is as near as that to what is allowed, gets there, and stays there.
func TestGetsThere(t *testing.T) {
	for _, slew := range []int{1, 7, 50, 10000} {
		e, l := withSlew(slew), laws()
		for _, c := range []struct{ n2, from, fuel int }{{5000, 0, 900}, {5000, 650, 900}, {5000, 640, 0}, {0, 1000, 5000}, {10000, -777, 800}, {10000, 3000, -5}, {-5, 5000, 0}, {most, 123, 1000}} {
			valve, to := c.from, allowed(l, c.n2, c.fuel)
			for valve != to {
				next := Next(e, l, c.n2, valve, c.fuel)
				want := to
				if to-valve > slew {
					want = valve + slew
				} else if valve-to > slew {
					want = valve - slew
				}
				if next != want {
					t.Fatalf("slew %d, n2 %d, fuel %d: from %d to %d, not %d", slew, c.n2, c.fuel, valve, next, want)
				}
				valve = next
			}
			for range 5 {
				if valve = Next(e, l, c.n2, valve, c.fuel); valve != to {
					t.Fatalf("slew %d, n2 %d, fuel %d: it leaves %d for %d", slew, c.n2, c.fuel, to, valve)
				}
			}
		}
	}
}

// engineTables are an engine's.
func engineTables(e *api.Engine) []*api.Table {
	return []*api.Table{&e.Fuel, &e.N2, &e.N1, &e.Heat}
}

// lawTables are those of laws, in order of their names.
func lawTables(l *api.Laws) []*api.Table {
	var all []*api.Table
	for _, name := range slices.Sorted(maps.Keys(tables())) {
		all = append(all, tables()[name](l))
	}
	return all
}

// roomy gives each list of tables spare room.
func roomy(l []*api.Table) {
	room := func(l []int) []int { return append(slices.Clone(l), 77, 78, 79)[:len(l)] }
	for _, t := range l {
		t.X, t.Y = room(t.X), room(t.Y)
	}
}

// all is all that tables have, their spare room included.
func all(l []*api.Table) []int {
	var out []int
	for _, t := range l {
		out = append(out, len(t.X), len(t.Y))
		out = append(append(out, t.X[:cap(t.X)]...), t.Y[:cap(t.Y)]...)
	}
	return out
}

// answers are those of all calls.
func answers(e api.Engine, l api.Laws) [8]int {
	return [8]int{int(Check(l)), Ask(e, 400), Ask(e, -7), Allow(l, 4000, 900), Allow(l, 4000, 1), Next(e, l, 4000, 500, 900), Next(e, l, 4000, 500, 0), int(synth.Check(e))}
}

// R4, R5: what is handed in is as it was behind the calls; calls ahead change nothing; and spare room does not matter.
func TestHandedIn(t *testing.T) {
	engines := append(slices.Collect(maps.Values(badEngines())), manyEngines()...)
	for i, l := range append(slices.Collect(maps.Values(badLaws())), manyLaws()...) {
		e := engines[i%len(engines)]
		roomyEngine, roomyLaws := e, l
		roomy(engineTables(&roomyEngine))
		roomy(lawTables(&roomyLaws))
		wasEngine, wasLaws := all(engineTables(&roomyEngine)), all(lawTables(&roomyLaws))
		first := answers(roomyEngine, roomyLaws)
		if !slices.Equal(all(engineTables(&roomyEngine)), wasEngine) || !slices.Equal(all(lawTables(&roomyLaws)), wasLaws) {
			t.Fatalf("%v, %v became %v, %v", wasEngine, wasLaws, all(engineTables(&roomyEngine)), all(lawTables(&roomyLaws)))
		}
		answers(withSlew(3), crossed())
		if answers(roomyEngine, roomyLaws) != first {
			t.Fatalf("%v, %v: another answer, the second time", e, l)
		}
		if answers(e, l) != first {
			t.Fatalf("%v, %v: another answer, without spare room", e, l)
		}
	}
}
