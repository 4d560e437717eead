package synth

import (
	"maps"
	"math"
	"slices"
	"strconv"
	"testing"

	"turbojet/api"
	"turbojet/table"
)

// The chapter's numbers.
const (
	most      = 1 << 20
	mostLag   = 64
	errEngine = 100
)

type signals = [api.Signals]int

func of(x, y []int) api.Table { return api.Table{X: x, Y: y} }

// example is the chapter's engine; what the chapter does not say of it is ordinary.
func example() api.Engine {
	return api.Engine{
		Fuel: of([]int{0, 1000}, []int{200, 900}),
		N2:   of([]int{0, 1000}, []int{0, 10000}),
		N1:   of([]int{0, 10000}, []int{0, 8000}),
		Heat: of([]int{0, 1000}, []int{0, 900}),
		Lag2: 8, Lag1: 7, LagE: 4, Slew: 50, Starter: 1500, Light: 1000, Lean: 100, Disturb: 3,
	}
}

// bent has tables of other places and values, so that each is told from the others; N2 is flat from 300 to 500, and N1 from 4000 to 6000.
func bent() api.Engine {
	e := example()
	e.Fuel = of([]int{0, 400, 1000}, []int{200, 300, 900})
	e.N2 = of([]int{100, 300, 500, 1100}, []int{1000, 5000, 5000, 9000})
	e.N1 = of([]int{2000, 4000, 6000, 8000}, []int{700, 1700, 1700, 6700})
	e.Heat = of([]int{50, 350, 850}, []int{300, 600, 1100})
	return e
}

// widest has the greatest numbers that its parts may have.
func widest() api.Engine {
	return api.Engine{
		Fuel: of([]int{0, most}, []int{most, most}),
		N2:   of([]int{0, most}, []int{0, most}),
		N1:   of([]int{0, most - 1, most}, []int{0, 1, most}),
		Heat: of([]int{0, 1, most}, []int{0, most - 1, most}),
		Lag2: mostLag, Lag1: mostLag, LagE: mostLag, Slew: most, Starter: most, Light: most, Lean: most, Disturb: most,
	}
}

// leastest has the least numbers that its parts may have; its tables but Fuel are 0 throughout.
func leastest() api.Engine {
	zero := func() api.Table { return of([]int{0, 1}, []int{0, 0}) }
	return api.Engine{Fuel: of([]int{0, 1}, []int{1, 1}), N2: zero(), N1: zero(), Heat: zero(), Lag2: 1, Lag1: 1, LagE: 1, Slew: 1, Lean: 1}
}

// scattered has tables with places and values that a short rule scatters, so near to one another that what N2 has are places of N1, below and beyond them too; they are flat here and there.
func scattered(k int) api.Engine {
	e := example()
	for i, t := range []*api.Table{&e.N2, &e.N1, &e.Heat} {
		*t = scatteredTable(k*3 + i)
	}
	return e
}

func scatteredTable(k int) api.Table {
	t, place, value := api.Table{}, k*5%11, k*k%13
	for i := range 2 + k%15 {
		t.X, t.Y = append(t.X, place), append(t.Y, value)
		place += 1 + (k*7+i*i*3)%9
		value += max(0, (k*11+i*i*5+i*k)%13-4)
	}
	return t
}

// engines may be.
func engines() []api.Engine {
	l := []api.Engine{example(), bent(), widest(), leastest()}
	for k := range 150 {
		l = append(l, scattered(k))
	}
	return l
}

// tables are an engine's.
func tables() map[string]func(e *api.Engine) *api.Table {
	return map[string]func(e *api.Engine) *api.Table{
		"Fuel": func(e *api.Engine) *api.Table { return &e.Fuel },
		"N2":   func(e *api.Engine) *api.Table { return &e.N2 },
		"N1":   func(e *api.Engine) *api.Table { return &e.N1 },
		"Heat": func(e *api.Engine) *api.Table { return &e.Heat },
	}
}

// numbers are an engine's.
func numbers() map[string]func(e *api.Engine) *int {
	return map[string]func(e *api.Engine) *int{
		"Lag2":    func(e *api.Engine) *int { return &e.Lag2 },
		"Lag1":    func(e *api.Engine) *int { return &e.Lag1 },
		"LagE":    func(e *api.Engine) *int { return &e.LagE },
		"Slew":    func(e *api.Engine) *int { return &e.Slew },
		"Starter": func(e *api.Engine) *int { return &e.Starter },
		"Light":   func(e *api.Engine) *int { return &e.Light },
		"Lean":    func(e *api.Engine) *int { return &e.Lean },
		"Disturb": func(e *api.Engine) *int { return &e.Disturb },
	}
}

// line has n places 0, 1, 2 .. with the values 300, 301, 302 ..
func line(n int) api.Table {
	t := api.Table{}
	for i := range n {
		t.X, t.Y = append(t.X, i), append(t.Y, 300+i)
	}
	return t
}

// badTables may be none of an engine's. Each has a first value that lets Lean be, if it has one that may be at all.
func badTables() map[string]api.Table {
	return map[string]api.Table{
		"nil lists":               {},
		"lists without elements":  of([]int{}, []int{}),
		"no places":               of(nil, []int{300, 400}),
		"no values":               of([]int{0, 1000}, nil),
		"one point":               line(1),
		"17 points":               line(17),
		"fewer values":            of([]int{0, 1, 2}, []int{300, 400}),
		"more values":             of([]int{0, 1}, []int{300, 400, 500}),
		"places that stand still": of([]int{5, 5}, []int{300, 400}),
		"places that fall":        of([]int{5, 4}, []int{300, 400}),
		"last places that fall":   of([]int{0, 5, 4}, []int{300, 400, 500}),
		"a place below 0":         of([]int{-1, 5}, []int{300, 400}),
		"a place beyond":          of([]int{0, most + 1}, []int{300, 400}),
		"a value below 0":         of([]int{0, 5}, []int{-1, 400}),
		"a value beyond":          of([]int{0, 5}, []int{300, most + 1}),
		"the ends of an int":      of([]int{math.MinInt, math.MaxInt}, []int{300, math.MaxInt}),
		"values that fall":        of([]int{0, 5}, []int{301, 300}),
		"last values that fall":   of([]int{0, 5, 6}, []int{300, 400, 399}),
		"a value that falls":      of([]int{0, 5, 6, 7}, []int{300, 400, 399, 500}),
		"values down to 0":        of([]int{0, most}, []int{most, 0}),
	}
}

// goodTables may be each of an engine's.
func goodTables() []api.Table {
	return []api.Table{
		line(2), line(3), line(15), line(16),
		of([]int{0, most}, []int{300, 300}), of([]int{7, 9}, []int{most, most}), of([]int{0, most}, []int{100, most}), of([]int{most - 1, most}, []int{300, 301}), of([]int{3, 5, 8, 9}, []int{300, 300, 400, 400}),
	}
}

// withNumber is an engine with one number other than it was.
func withNumber(e api.Engine, name string, n int) api.Engine {
	*numbers()[name](&e) = n
	return e
}

// badEngines differ from ones that may be in one thing alone; or have nothing at all.
func badEngines() map[string]api.Engine {
	bad := map[string]api.Engine{"nothing": {}}
	for name, place := range tables() {
		for why, t := range badTables() {
			e := example()
			*place(&e) = t
			bad[name+": "+why] = e
		}
	}
	for name := range numbers() {
		for _, n := range []int{math.MinInt, math.MinInt + 1, -1 << 32, -1<<32 + 1, -most, -1, most + 1, 1 << 31, 1<<32 + 1, math.MaxInt - 1, math.MaxInt} {
			for from, e := range map[string]api.Engine{"example": example(), "widest": widest(), "leastest": leastest()} {
				bad[from+" with "+name+" at "+strconv.Itoa(n)] = withNumber(e, name, n)
			}
		}
	}
	e := example()
	e.Fuel, e.N2, e.N1, e.Heat = api.Table{}, api.Table{}, api.Table{}, api.Table{}
	bad["no table at all"] = e
	return bad
}

// outsiders are numbers that no table of an engine reaches.
func outsiders() []int {
	return []int{math.MinInt, math.MinInt + 1, -1 << 62, -1 << 40, -1 << 31, -2, -1, most + 1, 1 << 31, 1<<32 + 500, 1 << 40, 1 << 62, math.MaxInt - 1, math.MaxInt}
}

// near are the numbers around each of some lists, those in the middle of two, and outsiders.
func near(lists ...[]int) []int {
	out := outsiders()
	for _, l := range lists {
		for i, x := range l {
			out = append(out, x-2, x-1, x, x+1, x+2)
			if i > 0 {
				m := (l[i-1] + x) / 2
				out = append(out, m-1, m, m+1)
			}
		}
	}
	slices.Sort(out)
	return slices.Compact(out)
}

// fuels are those around an engine's places, in order.
func fuels(e api.Engine) []int { return near(e.N2.X, e.Heat.X, e.Fuel.Y) }

func rest(e api.Engine, fuel int) [3]int {
	n2, n1, heat := Rest(e, fuel)
	return [3]int{n2, n1, heat}
}

// P10.1: the chapter's numbers.
func TestNumbers(t *testing.T) {
	if api.ErrEngine != errEngine || api.OK != 0 {
		t.Errorf("ErrEngine is %d, OK %d", api.ErrEngine, api.OK)
	}
	if api.MaxLag != mostLag || api.MaxLever != 1000 || api.MaxNumber != most {
		t.Errorf("MaxLag is %d, MaxLever %d, MaxNumber %d", api.MaxLag, api.MaxLever, api.MaxNumber)
	}
	if got := [...]int{api.SN1, api.SN2, api.SEGT, api.SPLA, api.SValve, api.Signals}; got != [...]int{0, 1, 2, 3, 4, 5} {
		t.Errorf("the signals are %v", got)
	}
}

// P10.2, P10.3: the chapter's examples.
func TestExamples(t *testing.T) {
	if got := rest(example(), 500); got != [3]int{5000, 4000, 450} {
		t.Errorf("Rest: %v", got)
	}
	if got := Model(example(), signals{4000, 5000, 0, 7, 500}); got != (signals{4000, 5000, 450, 7, 500}) {
		t.Errorf("Model: %v", got)
	}
}

// P10.1: engines that may be.
func TestCheckOK(t *testing.T) {
	for i, e := range engines() {
		if got := Check(e); got != api.OK {
			t.Errorf("%d: %v: %d", i, e, got)
		}
	}
}

// P10.1: engines that may not be.
func TestCheckBad(t *testing.T) {
	for name, e := range badEngines() {
		if got := Check(e); got != errEngine {
			t.Errorf("%s: %d", name, got)
		}
	}
}

// P10.1: each table of an engine may be each table that rises.
func TestCheckTables(t *testing.T) {
	for name, place := range tables() {
		for _, x := range goodTables() {
			e := example()
			*place(&e) = x
			if got := Check(e); got != api.OK {
				t.Errorf("%s, %v: %d", name, x, got)
			}
		}
	}
}

// numberCase is an engine with one number other than it was, and whether it may be.
type numberCase struct {
	name string
	n    int
	may  bool
}

func tryNumbers(t *testing.T, e api.Engine, cases []numberCase) {
	t.Helper()
	for _, c := range cases {
		want := api.Errno(errEngine)
		if c.may {
			want = api.OK
		}
		if got := Check(withNumber(e, c.name, c.n)); got != want {
			t.Errorf("%s at %d: %d, not %d", c.name, c.n, got, want)
		}
	}
}

// P10.1: lags and Slew at their ends, and beyond them.
func TestCheckLags(t *testing.T) {
	for _, e := range []api.Engine{example(), bent(), widest(), leastest()} {
		for _, name := range []string{"Lag2", "Lag1", "LagE"} {
			tryNumbers(t, e, []numberCase{{name, -1, false}, {name, 0, false}, {name, 1, true}, {name, 2, true}, {name, 63, true}, {name, 64, true}, {name, 65, false}, {name, most, false}})
		}
		tryNumbers(t, e, []numberCase{{"Slew", -1, false}, {"Slew", 0, false}, {"Slew", 1, true}, {"Slew", 64, true}, {"Slew", 65, true}, {"Slew", most - 1, true}, {"Slew", most, true}, {"Slew", most + 1, false}})
	}
}

// P10.1: Starter and Light at their ends, at each other, and beyond.
func TestCheckStarter(t *testing.T) {
	tryNumbers(t, example(), []numberCase{
		{"Light", -1, false}, {"Light", 0, true}, {"Light", 1, true}, {"Light", 1499, true}, {"Light", 1500, true}, {"Light", 1501, false}, {"Light", most, false},
		{"Starter", -1, false}, {"Starter", 0, false}, {"Starter", 999, false}, {"Starter", 1000, true}, {"Starter", 1001, true}, {"Starter", most, true}, {"Starter", most + 1, false},
	})
	dark := withNumber(example(), "Light", 0)
	tryNumbers(t, dark, []numberCase{{"Starter", -1, false}, {"Starter", 0, true}, {"Starter", 1, true}, {"Starter", most - 1, true}, {"Starter", most, true}, {"Starter", most + 1, false}})
	still := withNumber(dark, "Starter", 0)
	tryNumbers(t, still, []numberCase{{"Light", -1, false}, {"Light", 0, true}, {"Light", 1, false}})
	fast := withNumber(example(), "Starter", most)
	tryNumbers(t, fast, []numberCase{{"Light", -1, false}, {"Light", 0, true}, {"Light", most - 1, true}, {"Light", most, true}, {"Light", most + 1, false}})
	faster := withNumber(example(), "Starter", most+1)
	tryNumbers(t, faster, []numberCase{{"Light", 0, false}, {"Light", most, false}, {"Light", most + 1, false}})
	below := withNumber(example(), "Starter", -1)
	tryNumbers(t, below, []numberCase{{"Light", -2, false}, {"Light", -1, false}, {"Light", 0, false}})
}

// P10.1: Lean at 1, at the first value of Fuel, and beyond both; it is the first value, not the last one, nor one at a place.
func TestCheckLean(t *testing.T) {
	tryNumbers(t, example(), []numberCase{{"Lean", -1, false}, {"Lean", 0, false}, {"Lean", 1, true}, {"Lean", 2, true}, {"Lean", 199, true}, {"Lean", 200, true}, {"Lean", 201, false}, {"Lean", 900, false}, {"Lean", most, false}, {"Lean", most + 1, false}})
	rich := example()
	rich.Fuel = of([]int{0, 1000}, []int{most, most})
	tryNumbers(t, rich, []numberCase{{"Lean", -1, false}, {"Lean", 0, false}, {"Lean", 1, true}, {"Lean", most - 1, true}, {"Lean", most, true}, {"Lean", most + 1, false}})
	late := example()
	late.Fuel = of([]int{700, 800, 1000}, []int{10, 20, 900})
	tryNumbers(t, late, []numberCase{{"Lean", 0, false}, {"Lean", 1, true}, {"Lean", 10, true}, {"Lean", 11, false}, {"Lean", 20, false}, {"Lean", 700, false}})
	empty := example()
	empty.Fuel = of([]int{0, 1000}, []int{0, 900})
	tryNumbers(t, empty, []numberCase{{"Lean", -1, false}, {"Lean", 0, false}, {"Lean", 1, false}, {"Lean", 100, false}})
}

// P10.1: Disturb at its ends, and beyond them.
func TestCheckDisturb(t *testing.T) {
	for _, e := range []api.Engine{example(), bent(), widest(), leastest()} {
		tryNumbers(t, e, []numberCase{{"Disturb", -1, false}, {"Disturb", 0, true}, {"Disturb", 1, true}, {"Disturb", most - 1, true}, {"Disturb", most, true}, {"Disturb", most + 1, false}})
	}
}

// P10.1 (and R1): an engine with no table at all is refused, whatever its Lean, and not asked for its first value; one with no values in Fuel, too.
func TestCheckNoTable(t *testing.T) {
	for _, fuel := range []api.Table{{}, of([]int{}, []int{}), of([]int{0, 1000}, nil), of([]int{0, 1000}, []int{})} {
		for _, lean := range append(outsiders(), 0, 1, 100) {
			bare := withNumber(example(), "Lean", lean)
			bare.Fuel = fuel
			none := bare
			none.N2, none.N1, none.Heat = api.Table{}, api.Table{}, api.Table{}
			for _, e := range []api.Engine{bare, none, {Lean: lean}} {
				if got := Check(e); got != errEngine {
					t.Errorf("%v: %d", e, got)
				}
			}
		}
	}
}

// P10.2, P10.3: of engines that may not be all is 0, PLA too.
func TestBad(t *testing.T) {
	for name, e := range badEngines() {
		for _, n := range append(outsiders(), 0, 1, 500, 5000, most) {
			if got := rest(e, n); got != [3]int{} {
				t.Fatalf("%s: Rest of %d: %v", name, n, got)
			}
			if got := Model(e, signals{n, n, n, n, n}); got != (signals{}) {
				t.Fatalf("%s: Model of %d: %v", name, n, got)
			}
		}
		if got := Model(e, signals{4000, 5000, 450, 7, 500}); got != (signals{}) {
			t.Fatalf("%s: Model: %v", name, got)
		}
	}
}

// P10.3: by hand: below each table's first place, at it, between places, at the last one, and beyond it.
func TestRest(t *testing.T) {
	for _, c := range []struct {
		fuel int
		want [3]int
	}{
		{math.MinInt, [3]int{1000, 700, 300}}, {-1 << 31, [3]int{1000, 700, 300}}, {-1, [3]int{1000, 700, 300}}, {0, [3]int{1000, 700, 300}}, {49, [3]int{1000, 700, 300}}, {50, [3]int{1000, 700, 300}}, {51, [3]int{1000, 700, 301}}, {99, [3]int{1000, 700, 349}},
		{100, [3]int{1000, 700, 350}}, {101, [3]int{1020, 700, 351}}, {150, [3]int{2000, 700, 400}}, {151, [3]int{2020, 710, 401}}, {200, [3]int{3000, 1200, 450}}, {250, [3]int{4000, 1700, 500}}, {251, [3]int{4020, 1700, 501}}, {299, [3]int{4980, 1700, 549}},
		{300, [3]int{5000, 1700, 550}}, {350, [3]int{5000, 1700, 600}}, {400, [3]int{5000, 1700, 650}}, {500, [3]int{5000, 1700, 750}}, {501, [3]int{5006, 1700, 751}}, {650, [3]int{6000, 1700, 900}}, {651, [3]int{6006, 1715, 901}}, {800, [3]int{7000, 4200, 1050}},
		{849, [3]int{7326, 5015, 1099}}, {850, [3]int{7333, 5032, 1100}}, {851, [3]int{7340, 5050, 1100}}, {950, [3]int{8000, 6700, 1100}}, {1099, [3]int{8993, 6700, 1100}}, {1100, [3]int{9000, 6700, 1100}}, {1101, [3]int{9000, 6700, 1100}}, {1 << 31, [3]int{9000, 6700, 1100}}, {1<<32 + 300, [3]int{9000, 6700, 1100}}, {math.MaxInt, [3]int{9000, 6700, 1100}},
	} {
		if got := rest(bent(), c.fuel); got != c.want {
			t.Errorf("Rest(%d) = %v, not %v", c.fuel, got, c.want)
		}
	}
	for fuel, want := range map[int][3]int{math.MinInt: {}, -1: {}, 0: {}, 1: {1, 0, most - 1}, most - 1: {most - 1, 1, most - 1}, most: {most, most, most}, most + 1: {most, most, most}, math.MaxInt: {most, most, most}} {
		if got := rest(widest(), fuel); got != want {
			t.Errorf("Rest(%d) of the widest = %v, not %v", fuel, got, want)
		}
	}
}

// P10.2: by hand: each signal below what its table has, at it, between, and beyond; all others stay.
func TestModel(t *testing.T) {
	was := signals{1200, 7000, 11, 22, 200}
	base := signals{4200, 3000, 450, 22, 800}
	for _, c := range []struct{ from, n, to, want int }{
		{api.SN2, math.MinInt, api.SN1, 700}, {api.SN2, -1, api.SN1, 700}, {api.SN2, 0, api.SN1, 700}, {api.SN2, 1999, api.SN1, 700}, {api.SN2, 2000, api.SN1, 700}, {api.SN2, 2001, api.SN1, 700}, {api.SN2, 2002, api.SN1, 701}, {api.SN2, 3000, api.SN1, 1200}, {api.SN2, 4000, api.SN1, 1700}, {api.SN2, 5000, api.SN1, 1700}, {api.SN2, 6000, api.SN1, 1700}, {api.SN2, 6001, api.SN1, 1702}, {api.SN2, 7000, api.SN1, 4200}, {api.SN2, 7999, api.SN1, 6697}, {api.SN2, 8000, api.SN1, 6700}, {api.SN2, 8001, api.SN1, 6700}, {api.SN2, math.MaxInt, api.SN1, 6700},
		{api.SN1, math.MinInt, api.SN2, 2000}, {api.SN1, -1, api.SN2, 2000}, {api.SN1, 0, api.SN2, 2000}, {api.SN1, 699, api.SN2, 2000}, {api.SN1, 700, api.SN2, 2000}, {api.SN1, 701, api.SN2, 2002}, {api.SN1, 1200, api.SN2, 3000}, {api.SN1, 1699, api.SN2, 3998}, {api.SN1, 1700, api.SN2, 4000}, {api.SN1, 1701, api.SN2, 6001}, {api.SN1, 1702, api.SN2, 6001}, {api.SN1, 1703, api.SN2, 6002}, {api.SN1, 4200, api.SN2, 7000}, {api.SN1, 6699, api.SN2, 8000}, {api.SN1, 6700, api.SN2, 8000}, {api.SN1, 6701, api.SN2, 8000}, {api.SN1, math.MaxInt, api.SN2, 8000},
		{api.SValve, math.MinInt, api.SEGT, 300}, {api.SValve, -1, api.SEGT, 300}, {api.SValve, 0, api.SEGT, 300}, {api.SValve, 49, api.SEGT, 300}, {api.SValve, 50, api.SEGT, 300}, {api.SValve, 51, api.SEGT, 301}, {api.SValve, 350, api.SEGT, 600}, {api.SValve, 500, api.SEGT, 750}, {api.SValve, 849, api.SEGT, 1099}, {api.SValve, 850, api.SEGT, 1100}, {api.SValve, 851, api.SEGT, 1100}, {api.SValve, math.MaxInt, api.SEGT, 1100},
		{api.SN2, math.MinInt, api.SValve, 100}, {api.SN2, -1, api.SValve, 100}, {api.SN2, 0, api.SValve, 100}, {api.SN2, 999, api.SValve, 100}, {api.SN2, 1000, api.SValve, 100}, {api.SN2, 1001, api.SValve, 101}, {api.SN2, 1020, api.SValve, 101}, {api.SN2, 1021, api.SValve, 102}, {api.SN2, 3000, api.SValve, 200}, {api.SN2, 5000, api.SValve, 300}, {api.SN2, 5001, api.SValve, 501}, {api.SN2, 7000, api.SValve, 800}, {api.SN2, 8999, api.SValve, 1100}, {api.SN2, 9000, api.SValve, 1100}, {api.SN2, 9001, api.SValve, 1100}, {api.SN2, math.MaxInt, api.SValve, 1100},
	} {
		v := was
		v[c.from] = c.n
		got := Model(bent(), v)
		if got[c.to] != c.want {
			t.Errorf("Model(%v) = %v: of %d not %d", v, got, c.to, c.want)
		}
		for i := range api.Signals {
			if c.from != api.SN2 && i != c.to && got[i] != base[i] {
				t.Errorf("Model(%v) = %v: of %d not %d", v, got, i, base[i])
			}
		}
	}
	if got := Model(bent(), was); got != base {
		t.Errorf("Model(%v) = %v, not %v", was, got, base)
	}
}

// P10.2: PLA is as it was, whatever it is, and nothing else hangs on it; nor does anything on EGT.
func TestModelLever(t *testing.T) {
	for _, n := range append(outsiders(), 0, 1, 7, 999, 1000, 1001, most) {
		if got := Model(bent(), signals{1200, 7000, 11, n, 200}); got != (signals{4200, 3000, 450, n, 800}) {
			t.Errorf("PLA %d: %v", n, got)
		}
		if got := Model(bent(), signals{1200, 7000, n, 22, 200}); got != (signals{4200, 3000, 450, 22, 800}) {
			t.Errorf("EGT %d: %v", n, got)
		}
	}
}

// modelled is P10.2, word by word.
func modelled(e api.Engine, v signals) signals {
	return signals{table.At(e.N1, v[1]), table.Back(e.N1, v[0]), table.At(e.Heat, v[4]), v[3], table.Back(e.N2, v[1])}
}

// P10.2: against the promise's words, with signals other than one another, around all that the tables have.
func TestModelAsTold(t *testing.T) {
	for _, e := range engines() {
		l := near(e.N2.X, e.N2.Y, e.N1.X, e.N1.Y, e.Heat.X, e.Heat.Y)
		for k := range 3 * len(l) {
			v := signals{}
			for i := range v {
				v[i] = l[(k*(2*i+1)+i*i*7+i)%len(l)]
			}
			if got, want := Model(e, v), modelled(e, v); got != want {
				t.Fatalf("%v: Model(%v) = %v, not %v", e, v, got, want)
			}
		}
	}
}

// P10.3: against the promise's words.
func TestRestAsTold(t *testing.T) {
	for _, e := range engines() {
		for _, fuel := range fuels(e) {
			n2 := table.At(e.N2, fuel)
			if got, want := rest(e, fuel), [3]int{n2, table.At(e.N1, n2), table.At(e.Heat, fuel)}; got != want {
				t.Fatalf("%v: Rest(%d) = %v, not %v", e, fuel, got, want)
			}
		}
	}
}

// P10.4: more fuel brings no less of each, and more of each somewhere.
func TestMoreFuel(t *testing.T) {
	more := [3]int{}
	for _, e := range engines() {
		last := rest(e, math.MinInt)
		for _, fuel := range fuels(e) {
			now := rest(e, fuel)
			for i := range now {
				if now[i] < last[i] {
					t.Fatalf("%v: Rest(%d) = %v, behind %v", e, fuel, now, last)
				}
				if now[i] > last[i] {
					more[i]++
				}
			}
			last = now
		}
	}
	for i, n := range more {
		if n < 100 {
			t.Errorf("more fuel brings more of %d %d times: too seldom to tell", i, n)
		}
	}
}

// P10.4: what Rest tells a model finds again: N1 and the heat just so; of N2 and of the fuel no more than it was (or the first place, where it was below that one), and with these the same N1 and N2 come again, and no more heat.
func TestFoundAgain(t *testing.T) {
	same, less, slower := 0, 0, 0
	for _, e := range engines() {
		for _, fuel := range fuels(e) {
			was := rest(e, fuel)
			n2, n1, heat := was[0], was[1], was[2]
			got := Model(e, signals{n1, n2, heat, 7, fuel})
			if got[api.SN1] != n1 || got[api.SEGT] != heat || got[api.SPLA] != 7 {
				t.Fatalf("%v: with %d it comes to %v; a model finds %v", e, fuel, was, got)
			}
			if got[api.SN2] > max(n2, e.N1.X[0]) || Model(e, signals{api.SN2: got[api.SN2]})[api.SN1] != n1 {
				t.Fatalf("%v: with %d it comes to %v; a model finds N2 %d", e, fuel, was, got[api.SN2])
			}
			least := max(fuel, e.N2.X[0])
			again := rest(e, got[api.SValve])
			if got[api.SValve] > least || again[0] != n2 || again[1] != n1 || again[2] > rest(e, least)[2] {
				t.Fatalf("%v: with %d it comes to %v; a model finds the fuel %d, that brings %v", e, fuel, was, got[api.SValve], again)
			}
			if got[api.SValve] == fuel {
				same++
			}
			if fuel < e.N2.X[len(e.N2.X)-1] && got[api.SValve] < fuel {
				less++
			}
			if n2 < e.N1.X[len(e.N1.X)-1] && got[api.SN2] < n2 {
				slower++
			}
		}
	}
	if same < 100 || less < 100 || slower < 100 {
		t.Errorf("the same fuel %d times, less %d times, slower %d times: too seldom to tell", same, less, slower)
	}
}

// P10.4: on a flat part, by hand: the least fuel with that N2 is found, and the least N2 with that N1.
func TestFoundAgainFlat(t *testing.T) {
	for _, c := range []struct {
		fuel int
		want signals
	}{
		{50, signals{700, 2000, 300, 0, 100}}, {100, signals{700, 2000, 350, 0, 100}}, {200, signals{1200, 3000, 450, 0, 200}}, {300, signals{1700, 4000, 550, 0, 300}}, {301, signals{1700, 4000, 551, 0, 300}}, {400, signals{1700, 4000, 650, 0, 300}}, {500, signals{1700, 4000, 750, 0, 300}}, {501, signals{1700, 4000, 751, 0, 501}}, {800, signals{4200, 7000, 1050, 0, 800}}, {1100, signals{6700, 8000, 1100, 0, 1100}}, {2000, signals{6700, 8000, 1100, 0, 1100}},
	} {
		n2, n1, heat := Rest(bent(), c.fuel)
		if got := Model(bent(), signals{n1, n2, heat, 0, c.fuel}); got != c.want {
			t.Errorf("fuel %d: %v, not %v", c.fuel, got, c.want)
		}
	}
}

// roomy is an engine whose lists have spare room.
func roomy(e api.Engine) api.Engine {
	room := func(l []int) []int { return append(slices.Clone(l), 77, 78, 79)[:len(l)] }
	for _, place := range tables() {
		x := place(&e)
		x.X, x.Y = room(x.X), room(x.Y)
	}
	return e
}

// all is all that an engine has, its spare room included.
func all(e api.Engine) []int {
	var l []int
	for _, name := range slices.Sorted(maps.Keys(tables())) {
		x := tables()[name](&e)
		l = append(l, len(x.X), len(x.Y))
		l = append(append(l, x.X[:cap(x.X)]...), x.Y[:cap(x.Y)]...)
	}
	for _, name := range slices.Sorted(maps.Keys(numbers())) {
		l = append(l, *numbers()[name](&e))
	}
	return l
}

// R4, R5: what is handed in is as it was behind the calls; calls ahead change nothing; and spare room does not matter.
func TestHandedIn(t *testing.T) {
	list := slices.Collect(maps.Values(badEngines()))
	for _, e := range append(list, engines()...) {
		r := roomy(e)
		was, v := all(r), signals{40, 50, 60, 70, 80}
		before, model, there := Check(r), Model(r, v), rest(r, 50)
		if !slices.Equal(all(r), was) || v != (signals{40, 50, 60, 70, 80}) {
			t.Fatalf("%v became %v; %v", was, all(r), v)
		}
		Check(bent())
		Model(bent(), signals{1, 2, 3, 4, 5})
		rest(bent(), 400)
		if Check(r) != before || Model(r, v) != model || rest(r, 50) != there {
			t.Fatalf("%v: another answer, the second time", e)
		}
		if Check(e) != before || Model(e, v) != model || rest(e, 50) != there {
			t.Fatalf("%v: another answer, with spare room", e)
		}
	}
}
