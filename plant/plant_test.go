package plant

import (
	"maps"
	"math"
	"math/big"
	"slices"
	"testing"

	"turbojet/api"
	"turbojet/synth"
	"turbojet/table"
)

// The chapter's numbers, and the greatest lag.
const (
	most    = 1 << 20
	longest = 10000
	mostLag = 64
)

// bools are both.
var bools = [2]bool{false, true}

func line(x, a, b int) api.Table { return api.Table{X: []int{0, x}, Y: []int{a, b}} }

// example is the chapter's engine, disturbed by 3 at most.
func example() api.Engine {
	e := api.Engine{Lag2: 8, Lag1: 8, LagE: 4, Slew: 50, Starter: 1500, Light: 1000, Lean: 100, Disturb: 3}
	e.Fuel, e.N2, e.N1, e.Heat = line(1000, 200, 900), line(1000, 0, 10000), line(10000, 0, 8000), line(1000, 0, 900)
	return e
}

// running is the chapter's plant.
func running() api.Plant { return api.Plant{N1: 4000, N2: 5000, Heat: 450, Valve: 500, Lit: true} }

// bent is an engine whose parts differ in all their numbers, so that none is taken for another one; no table begins at 0, and each is bent.
func bent() api.Engine {
	return api.Engine{
		Fuel: api.Table{X: []int{10, 300, 900}, Y: []int{150, 400, 1100}},
		N2:   api.Table{X: []int{120, 400, 410, 1000}, Y: []int{2100, 7000, 7000, 9100}},
		N1:   api.Table{X: []int{500, 3000, 8000, 9000}, Y: []int{310, 1700, 5200, 6401}},
		Heat: api.Table{X: []int{90, 600, 1200}, Y: []int{205, 480, 1333}},
		Lag2: 5, Lag1: 9, LagE: 3, Slew: 37, Starter: 2000, Light: 700, Lean: 110, Disturb: 11,
	}
}

// flat is an engine each of whose parts comes to the same number, by the same lag, whatever tells it.
func flat(target, lag, disturb int) api.Engine {
	t := line(1, target, target)
	return api.Engine{Fuel: line(1, 1, 1), N2: t, N1: t, Heat: t, Lag2: lag, Lag1: lag, LagE: lag, Slew: 1, Starter: target, Lean: 1, Disturb: disturb}
}

// quick is an engine each of whose parts is at once where it comes to.
func quick(e api.Engine) api.Engine {
	e.Lag2, e.Lag1, e.LagE, e.Slew = 1, 1, 1, most
	return e
}

// greatest has the greatest numbers that there may be; least the least ones.
func greatest() api.Engine {
	e := flat(most, mostLag, most)
	e.Fuel, e.Slew, e.Light, e.Lean = line(1, most, most), most, most, most
	return e
}

func least() api.Engine { return flat(0, 1, 0) }

// turned is an engine whose starter brings more than its fuel does.
func turned() api.Engine {
	e := bent()
	e.Starter, e.Light = 20000, 9500
	return e
}

// dice tell numbers that a short rule scatters.
type dice uint64

func (d *dice) upTo(n int) int {
	*d = *d*6364136223846793005 + 1442695040888963407
	return int(*d>>33) % n
}

func (d *dice) one(l []int) int { return l[d.upTo(len(l))] }

func (d *dice) is() bool { return d.upTo(2) == 1 }

// rising is a table of that many points, whose values do not fall, and begin with first.
func (d *dice) rising(points, first, place, value int) api.Table {
	var t api.Table
	x, y := d.upTo(place), first
	for range points {
		t.X, t.Y = append(t.X, x), append(t.Y, y)
		x, y = x+1+d.upTo(place), y+max(d.upTo(value)-value/4, 0)
	}
	return t
}

// scattered is an engine that dice tell.
func scattered(k int) api.Engine {
	d := dice(k)
	e := api.Engine{Lag2: 1 + d.upTo(mostLag), Lag1: 1 + d.upTo(mostLag), LagE: 1 + d.upTo(mostLag), Slew: 1 + d.upTo(200), Disturb: d.upTo(40) * d.upTo(2)}
	e.Lean, e.Starter = 1+d.upTo(100), d.upTo(4000)
	e.Light = d.upTo(e.Starter + 1)
	e.Fuel = d.rising(2+d.upTo(15), e.Lean+d.upTo(50), 200, 100)
	e.N2 = d.rising(2+d.upTo(15), d.upTo(1000), 100, 1500)
	e.N1 = d.rising(2+d.upTo(15), d.upTo(500), 1000, 1200)
	e.Heat = d.rising(2+d.upTo(15), d.upTo(300), 100, 150)
	return e
}

// engines may be.
func engines() []api.Engine {
	lagging := bent()
	lagging.Lag2, lagging.Lag1, lagging.LagE, lagging.Slew = mostLag, mostLag-1, mostLag-2, 1
	calm := example()
	calm.Disturb, calm.Light, calm.Starter = 0, 0, 0
	windy := example()
	windy.Disturb = most
	l := []api.Engine{example(), bent(), turned(), quick(example()), quick(bent()), lagging, calm, windy, greatest(), least(), flat(700, mostLag, 5)}
	for k := range 80 {
		l = append(l, scattered(k))
	}
	return l
}

// bad are engines that may not be, each for one reason; or with nothing at all.
func bad() map[string]api.Engine {
	out := map[string]api.Engine{"nothing": {}}
	for name, spoil := range map[string]func(e *api.Engine){
		"no Fuel": func(e *api.Engine) { e.Fuel = api.Table{} },
		"no N2":   func(e *api.Engine) { e.N2 = api.Table{} },
		"no N1":   func(e *api.Engine) { e.N1 = api.Table{} },
		"no Heat": func(e *api.Engine) { e.Heat = api.Table{} },

		"Fuel falls": func(e *api.Engine) { e.Fuel = line(1, most, most-1) },
		"N2 falls":   func(e *api.Engine) { e.N2 = line(5, 1, 0) },
		"N1 falls":   func(e *api.Engine) { e.N1 = line(5, 1, 0) },
		"Heat falls": func(e *api.Engine) { e.Heat = line(5, 1, 0) },

		"Fuel has too much":         func(e *api.Engine) { e.Fuel = line(1, most, most+1) },
		"a place of N2 falls":       func(e *api.Engine) { e.N2 = line(-1, 0, 1) },
		"N1 has a value too few":    func(e *api.Engine) { e.N1.Y = e.N1.Y[:1] },
		"Heat has less than 0":      func(e *api.Engine) { e.Heat = line(1, -1, 0) },
		"Heat has one point":        func(e *api.Engine) { e.Heat = api.Table{X: []int{0}, Y: []int{0}} },
		"N2 has a point too many":   func(e *api.Engine) { d := dice(1); e.N2 = d.rising(17, 0, 9, 9) },
		"N1 has a place too far":    func(e *api.Engine) { e.N1 = line(most+1, 0, 1) },
		"N1 has the ends of an int": func(e *api.Engine) { e.N1 = line(math.MaxInt, math.MinInt, math.MaxInt) },

		"Lag2 is 0":            func(e *api.Engine) { e.Lag2 = 0 },
		"Lag1 is 0":            func(e *api.Engine) { e.Lag1 = 0 },
		"LagE is 0":            func(e *api.Engine) { e.LagE = 0 },
		"Lag2 is below 0":      func(e *api.Engine) { e.Lag2 = -8 },
		"Lag1 is the least":    func(e *api.Engine) { e.Lag1 = math.MinInt },
		"LagE is below 0":      func(e *api.Engine) { e.LagE = -1 },
		"Lag2 is too great":    func(e *api.Engine) { e.Lag2 = mostLag + 1 },
		"Lag1 is too great":    func(e *api.Engine) { e.Lag1 = mostLag + 1 },
		"LagE is too great":    func(e *api.Engine) { e.LagE = 1<<32 + 4 },
		"Slew is 0":            func(e *api.Engine) { e.Slew = 0 },
		"Slew is below 0":      func(e *api.Engine) { e.Slew = -50 },
		"Slew is too great":    func(e *api.Engine) { e.Slew = most + 1 },
		"Slew is the greatest": func(e *api.Engine) { e.Slew = math.MaxInt },

		"Starter is below 0":      func(e *api.Engine) { e.Starter, e.Light = -1, -1 },
		"Starter is too great":    func(e *api.Engine) { e.Starter = most + 1 },
		"Starter is the greatest": func(e *api.Engine) { e.Starter = math.MaxInt },
		"Light is below 0":        func(e *api.Engine) { e.Light = -1 },
		"Light is above Starter":  func(e *api.Engine) { e.Light = e.Starter + 1 },
		"Lean is 0":               func(e *api.Engine) { e.Lean = 0 },
		"Lean is below 0":         func(e *api.Engine) { e.Lean = math.MinInt },
		"Lean is above Fuel":      func(e *api.Engine) { e.Lean = e.Fuel.Y[0] + 1 },
		"Disturb is below 0":      func(e *api.Engine) { e.Disturb = -1 },
		"Disturb is too great":    func(e *api.Engine) { e.Disturb = most + 1 },
		"Disturb is the least":    func(e *api.Engine) { e.Disturb = math.MinInt },
	} {
		for from, e := range map[string]api.Engine{"example": example(), "bent": bent(), "greatest": greatest(), "least": least()} {
			spoil(&e)
			out[from+": "+name] = e
		}
	}
	return out
}

// held is a number held to 0 to MaxNumber, in words of its own.
func held(n int) int {
	if n > most {
		return most
	}
	return max(n, 0)
}

// valueAt is a table's value at a place, in words of its own.
func valueAt(t api.Table, x int) int {
	i := slices.IndexFunc(t.X, func(place int) bool { return place > x })
	if i == 0 {
		return t.Y[0]
	}
	if i < 0 {
		return t.Y[len(t.Y)-1]
	}
	rise := big.NewInt(int64((x - t.X[i-1]) * (t.Y[i] - t.Y[i-1])))
	return t.Y[i-1] + int(rise.Div(rise, big.NewInt(int64(t.X[i]-t.X[i-1]))).Int64())
}

// gone is a part that goes on, in words of its own.
func gone(x, target, lag, gust, disturb int) int {
	x = held(x)
	by := (max(target, x) - min(target, x)) / lag
	if target < x {
		by = -by
	}
	if gust < -disturb {
		gust = -disturb
	}
	return held(x + by + min(gust, disturb))
}

// valveOf is where a valve goes, in words of its own.
func valveOf(valve, fuel, slew int) int {
	if fuel > valve {
		return min(fuel, valve+slew)
	}
	return max(fuel, valve-slew)
}

// told is P21.1 in words of its own.
func told(e api.Engine, p api.Plant, d api.Drive) api.Plant {
	q := api.Plant{Valve: valveOf(held(p.Valve), held(d.Fuel), e.Slew)}
	n2, heat := 0, 0
	switch enough := d.Open && q.Valve >= e.Lean; {
	case enough && !d.Blow && (p.Lit || d.Ignition && p.N2 >= e.Light):
		q.Lit, n2, heat = true, valueAt(e.N2, q.Valve), valueAt(e.Heat, q.Valve)
	case d.Starter:
		n2 = e.Starter
	}
	q.N2 = gone(p.N2, n2, e.Lag2, d.Gust[1], e.Disturb)
	q.N1 = gone(p.N1, valueAt(e.N1, q.N2), e.Lag1, d.Gust[0], e.Disturb)
	q.Heat = gone(p.Heat, heat, e.LagE, d.Gust[2], e.Disturb)
	return q
}

// P21.1 to P21.3: the numbers of the limits.
func TestNumbers(t *testing.T) {
	if api.MaxNumber != 1048576 || mostFrames != 10000 {
		t.Errorf("MaxNumber %d, %d frames", api.MaxNumber, mostFrames)
	}
}

// All others hold on this: the engines that may be may be, and those that may not be may not be.
func TestEngines(t *testing.T) {
	may := len(engines())
	for i, e := range everyEngine() {
		if err := synth.Check(e); (err == api.OK) != (i < may) {
			t.Errorf("the engine %d: %v", i, err)
		}
	}
}

// P21.1: the chapter's examples.
func TestExamples(t *testing.T) {
	if got := Step(example(), running(), api.Drive{Fuel: 500, Open: true}); got != running() {
		t.Errorf("Fuel 500: %+v", got)
	}
	want := api.Plant{N1: 4006, N2: 5062, Heat: 461, Valve: 550, Lit: true}
	if got := Step(example(), running(), api.Drive{Fuel: 900, Open: true}); got != want {
		t.Errorf("Fuel 900: %+v", got)
	}
}

// going is a part that goes on, by hand: from x to a target, by a lag, with a gust.
type going struct{ x, target, lag, disturb, gust, want int }

// goings are such, by hand.
func goings() []going {
	return []going{
		// there, and less than a lag, a lag, and more beside, above and below
		{100, 100, 8, 3, 0, 100},
		{100, 101, 8, 3, 0, 100},
		{100, 107, 8, 3, 0, 100},
		{100, 108, 8, 3, 0, 101},
		{100, 115, 8, 3, 0, 101},
		{100, 116, 8, 3, 0, 102},
		{100, 4103, 8, 3, 0, 600},
		{100, 99, 8, 3, 0, 100},
		{100, 93, 8, 3, 0, 100},
		{100, 92, 8, 3, 0, 99},
		{100, 85, 8, 3, 0, 99},
		{100, 84, 8, 3, 0, 98},
		{100, 0, 8, 3, 0, 88},
		{4107, 100, 8, 3, 0, 3607},
		{0, 7, 8, 3, 0, 0},
		{0, 8, 8, 3, 0, 1},
		{7, 0, 8, 3, 0, 7},
		{8, 0, 8, 3, 0, 7},
		{100, 555, 1, 3, 0, 555},
		{555, 100, 1, 3, 0, 100},
		{0, 63, 64, 3, 0, 0},
		{0, 64, 64, 3, 0, 1},
		{63, 0, 64, 3, 0, 63},
		{64, 0, 64, 3, 0, 63},
		{0, most, 64, 3, 0, 16384},
		{most, 0, 64, 3, 0, most - 16384},
		// gusts
		{100, 100, 8, 3, 2, 102},
		{100, 100, 8, 3, 3, 103},
		{100, 100, 8, 3, 4, 103},
		{100, 100, 8, 3, math.MaxInt, 103},
		{100, 100, 8, 3, 1<<32 + 1, 103},
		{100, 100, 8, 3, -2, 98},
		{100, 100, 8, 3, -3, 97},
		{100, 100, 8, 3, -4, 97},
		{100, 100, 8, 3, math.MinInt, 97},
		{100, 100, 8, 3, -1<<32 - 1, 97},
		{100, 100, 8, 0, 1, 100},
		{100, 100, 8, 0, -1, 100},
		{100, 100, 8, 0, math.MaxInt, 100},
		{100, 100, 8, 0, math.MinInt, 100},
		{100, 100, 8, 1, 7, 101},
		{100, 106, 8, 3, 3, 103},
		{100, 108, 8, 3, 2, 103},
		{100, 108, 8, 3, -3, 98},
		{100, 92, 8, 3, 3, 102},
		{100, 94, 8, 3, -3, 97},
		{100, 92, 8, 3, -2, 97},
		// down to 0, and up to MaxNumber
		{0, 0, 8, 3, -1, 0},
		{0, 0, 8, 3, math.MinInt, 0},
		{2, 0, 8, 3, -3, 0},
		{3, 0, 8, 3, -3, 0},
		{4, 0, 8, 3, -3, 1},
		{8, 0, 1, 3, -3, 0},
		{most, most, 8, 3, 1, most},
		{most, most, 8, 3, math.MaxInt, most},
		{most - 2, most, 8, 3, 3, most},
		{most - 3, most, 8, 3, 3, most},
		{most - 4, most, 8, 3, 3, most - 1},
		{0, most, 1, 3, 3, most},
		{0, 0, 64, most, math.MaxInt, most},
		{0, 0, 64, most, most, most},
		{0, 0, 64, most, most - 1, most - 1},
		{most, most, 64, most, math.MinInt, 0},
		{most, most, 64, most, 1 - most, 1},
		{0, most, 1, most, most, most},
		{most, 0, 1, most, -most, 0},
		// from what is beyond
		{-1, 0, 8, 3, 0, 0},
		{-1, 7, 8, 3, 0, 0},
		{-1, 8, 8, 3, 0, 1},
		{-1, 100, 8, 3, 0, 12},
		{-1, 100, 8, 3, 3, 15},
		{-1, 0, 8, 3, 3, 3},
		{-1, 0, 8, 3, -3, 0},
		{math.MinInt, 100, 8, 3, 2, 14},
		{math.MinInt, most, 1, 3, 0, most},
		{-1<<32 + 50, 100, 8, 3, 0, 12},
		{most + 1, most, 8, 3, 0, most},
		{most + 1, most, 8, 3, -3, most - 3},
		{most + 7, 0, 64, 3, 0, most - 16384},
		{1<<31 + 5, 0, 64, 3, 0, most - 16384},
		{1<<32 + 5, 0, 64, 3, 0, most - 16384},
		{math.MaxInt, 0, 1, 3, 0, 0},
		{math.MaxInt, most, 8, 3, 3, most},
		{math.MaxInt, most - 8, 8, 3, -3, most - 4},
	}
}

// P21.1: to go on, by hand: each part of an engine that burns, and N2 and N1 of one that its starter turns.
func TestGoOn(t *testing.T) {
	for _, c := range goings() {
		e := flat(c.target, c.lag, c.disturb)
		gusts := [3]int{c.gust, c.gust, c.gust}
		p := api.Plant{N1: c.x, N2: c.x, Heat: c.x, Valve: 1, Lit: true}
		want := api.Plant{N1: c.want, N2: c.want, Heat: c.want, Valve: 1, Lit: true}
		if got := Step(e, p, api.Drive{Fuel: 1, Open: true, Gust: gusts}); got != want {
			t.Errorf("%+v, lit: %+v", c, got)
		}
		if got := Step(e, p, api.Drive{Fuel: 1, Starter: true, Gust: gusts}); got.N2 != c.want || got.N1 != c.want || got.Lit {
			t.Errorf("%+v, turned: %+v", c, got)
		}
		if got := gone(c.x, c.target, c.lag, c.gust, c.disturb); got != c.want {
			t.Errorf("%+v: in words of its own %d", c, got)
		}
	}
}

// P21.1: N2 and heat of an engine that neither burns nor is turned go on to 0.
func TestGoOnToNothing(t *testing.T) {
	none := 0
	for _, c := range goings() {
		for _, open := range bools {
			e := flat(most, c.lag, c.disturb)
			p := api.Plant{N1: c.x, N2: c.x, Heat: c.x}
			got := Step(e, p, api.Drive{Open: open, Gust: [3]int{c.gust, c.gust, c.gust}})
			want := gone(c.x, 0, c.lag, c.gust, c.disturb)
			if c.target == 0 {
				want, none = c.want, none+1
			}
			if got.N2 != want || got.Heat != want || got.Lit {
				t.Errorf("%+v: %+v, not %d", c, got, want)
			}
		}
	}
	if none < 40 {
		t.Errorf("%d by hand: too few to tell", none)
	}
}

// P21.1: the valve, by hand: a Slew of 50.
func TestValve(t *testing.T) {
	for _, c := range []struct{ valve, fuel, want int }{
		{500, 500, 500},
		{500, 501, 501},
		{500, 549, 549},
		{500, 550, 550},
		{500, 551, 550},
		{500, 900, 550},
		{500, most, 550},
		{500, most + 1, 550},
		{500, math.MaxInt, 550},
		{500, 1<<32 + 500, 550},
		{500, 499, 499},
		{500, 451, 451},
		{500, 450, 450},
		{500, 449, 450},
		{500, 0, 450},
		{500, -1, 450},
		{500, math.MinInt, 450},
		{500, -1<<32 + 500, 450},
		{0, 0, 0},
		{0, 30, 30},
		{0, -30, 0},
		{0, 60, 50},
		{20, -1, 0},
		{50, math.MinInt, 0},
		{51, math.MinInt, 1},
		{-1, 0, 0},
		{-1, 50, 50},
		{-1, 51, 50},
		{-100, 30, 30},
		{math.MinInt, 10, 10},
		{math.MinInt, 900, 50},
		{math.MinInt, math.MinInt, 0},
		{math.MinInt, math.MaxInt, 50},
		{-1<<32 + 500, 500, 50},
		{most, most, most},
		{most, most + 1, most},
		{most, most - 50, most - 50},
		{most, most - 51, most - 50},
		{most - 50, most, most},
		{most - 51, math.MaxInt, most - 1},
		{most + 1, most, most},
		{most + 1, most - 50, most - 50},
		{most + 1, 0, most - 50},
		{1<<32 + 500, 500, most - 50},
		{math.MaxInt, math.MaxInt, most},
		{math.MaxInt, 500, most - 50},
		{math.MaxInt, math.MinInt, most - 50},
	} {
		for bits := range 64 {
			p, d := bitwise(bits)
			p.Valve, d.Fuel = c.valve, c.fuel
			if got := Step(example(), p, d); got.Valve != c.want {
				t.Errorf("%+v, %+v: %d, not %d", p, d, got.Valve, c.want)
			}
		}
	}
}

// bitwise is a plant of the example, and what drives it: what may be so or not hangs on six bits.
func bitwise(bits int) (api.Plant, api.Drive) {
	is := func(n int) bool { return bits>>n&1 != 0 }
	p := api.Plant{N1: 700, N2: 1000, Heat: 33, Lit: is(0)}
	d := api.Drive{Open: is(1), Ignition: is(2), Starter: is(3), Blow: is(4)}
	if is(5) {
		p.N2, d.Gust = 999, [3]int{3, -3, 2}
	}
	return p, d
}

// P21.1: the valve of engines with the least Slew, the greatest one, and one between.
func TestSlew(t *testing.T) {
	for _, c := range []struct{ slew, valve, fuel, want int }{
		{1, 500, 500, 500},
		{1, 500, 501, 501},
		{1, 500, 502, 501},
		{1, 500, 499, 499},
		{1, 500, 498, 499},
		{1, -9, 9, 1},
		{1, most + 9, 0, most - 1},
		{37, 500, 600, 537},
		{37, 500, 0, 463},
		{most - 1, 0, most, most - 1},
		{most - 1, most, 0, 1},
		{most, 0, most, most},
		{most, most, 0, 0},
		{most, math.MinInt, math.MaxInt, most},
		{most, math.MaxInt, math.MinInt, 0},
	} {
		for i, e := range engines() {
			e.Slew = c.slew
			if got := Step(e, api.Plant{Valve: c.valve}, api.Drive{Fuel: c.fuel}); got.Valve != c.want {
				t.Errorf("%+v, the engine %d: %d", c, i, got.Valve)
			}
		}
	}
}

// flame is what tells whether the example is lit: the valve behind the frame, N2 ahead of it, and the rest.
type flame struct {
	fuel, n2                  int
	lit, open, ignition, blow bool
}

// flames are all with the numbers just below, at and above those that it needs.
func flames() []flame {
	var out []flame
	for _, fuel := range []int{0, 99, 100, 101, most} {
		for _, n2 := range []int{math.MinInt, -1, 0, 999, 1000, 1001, math.MaxInt} {
			for bits := range 16 {
				out = append(out, flame{fuel, n2, bits&1 != 0, bits&2 != 0, bits&4 != 0, bits&8 != 0})
			}
		}
	}
	return out
}

// stepped is the example behind a frame with such a flame.
func (f flame) stepped(starter bool) api.Plant {
	p := api.Plant{N1: 300, N2: f.n2, Heat: 40, Valve: f.fuel, Lit: f.lit}
	return Step(example(), p, api.Drive{Fuel: f.fuel, Open: f.open, Ignition: f.ignition, Starter: starter, Blow: f.blow})
}

// P21.1: by hand: what lights an engine, and what keeps it lit, or does not.
func TestLitByHand(t *testing.T) {
	for _, c := range []struct {
		f    flame
		want bool
	}{
		{flame{100, 0, true, true, false, false}, true},
		{flame{101, 0, true, true, false, false}, true},
		{flame{most, 0, true, true, false, false}, true},
		{flame{99, 0, true, true, false, false}, false},
		{flame{0, 0, true, true, false, false}, false},
		{flame{100, 0, true, false, false, false}, false},
		{flame{100, 0, true, true, false, true}, false},
		{flame{100, 0, true, true, true, false}, true},
		{flame{100, 0, true, true, true, true}, false},
		{flame{100, 1000, false, true, true, false}, true},
		{flame{100, 1001, false, true, true, false}, true},
		{flame{100, math.MaxInt, false, true, true, false}, true},
		{flame{100, 999, false, true, true, false}, false},
		{flame{100, math.MinInt, false, true, true, false}, false},
		{flame{99, 1000, false, true, true, false}, false},
		{flame{100, 1000, false, false, true, false}, false},
		{flame{100, 1000, false, true, false, false}, false},
		{flame{100, 1000, false, true, true, true}, false},
		{flame{100, 1000, true, true, true, false}, true},
		{flame{100, 1000, true, true, true, true}, false},
		{flame{100, 1000, true, false, true, false}, false},
		{flame{99, 1000, true, true, true, false}, false},
		{flame{99, 999, false, false, false, true}, false},
		{flame{100, 1000, false, true, false, true}, false},
	} {
		for _, starter := range bools {
			if got := c.f.stepped(starter); got.Lit != c.want {
				t.Errorf("%+v, starter %t: %t", c.f, starter, got.Lit)
			}
		}
	}
}

// P21.1: each way to be lit, and not to be, and where N2 and heat go on to then: to what burns, to what the starter brings, or to 0.
func TestLit(t *testing.T) {
	lit, dark := 0, 0
	for _, f := range flames() {
		for _, starter := range bools {
			got := f.stepped(starter)
			burns := f.fuel >= 100 && f.open && !f.blow && (f.lit || f.ignition && f.n2 >= 1000)
			n2, heat := 0, 0
			switch {
			case burns:
				n2, heat, lit = min(f.fuel, 1000)*10, min(f.fuel, 1000)*9/10, lit+1
			case starter:
				n2, dark = 1500, dark+1
			default:
				dark++
			}
			if got.Lit != burns || got.N2 != gone(f.n2, n2, 8, 0, 3) || got.Heat != gone(40, heat, 4, 0, 3) || got.Valve != f.fuel {
				t.Errorf("%+v, starter %t: %+v", f, starter, got)
			}
		}
	}
	if lit < 100 || dark < 100 {
		t.Errorf("%d lit, %d not: too seldom to tell", lit, dark)
	}
}

// P21.1: it is the valve behind the frame that tells whether there is enough fuel, and how much burns.
func TestFuelBehind(t *testing.T) {
	for i, c := range []struct {
		p    api.Plant
		d    api.Drive
		want api.Plant
	}{
		{api.Plant{Valve: 50, Lit: true}, api.Drive{Fuel: 900, Open: true}, api.Plant{N1: 12, N2: 125, Heat: 22, Valve: 100, Lit: true}},
		{api.Plant{Valve: 49, Lit: true}, api.Drive{Fuel: 900, Open: true}, api.Plant{Valve: 99}},
		{api.Plant{Valve: 150, Lit: true}, api.Drive{Fuel: 0, Open: true}, api.Plant{N1: 12, N2: 125, Heat: 22, Valve: 100, Lit: true}},
		{api.Plant{Valve: 149, Lit: true}, api.Drive{Fuel: 0, Open: true}, api.Plant{Valve: 99}},
		{api.Plant{Valve: -9, Lit: true}, api.Drive{Fuel: most, Open: true}, api.Plant{Valve: 50}},
		{api.Plant{Valve: math.MaxInt, Lit: true}, api.Drive{Open: true}, api.Plant{N1: 125, N2: 1250, Heat: 225, Valve: most - 50, Lit: true}},
	} {
		if got := Step(example(), c.p, c.d); got != c.want {
			t.Errorf("%d: %+v, not %+v", i, got, c.want)
		}
	}
}

// P21.1: without Open there is no fuel, whatever the valve is: nothing burns.
func TestNotOpen(t *testing.T) {
	for i, e := range engines() {
		for _, valve := range []int{math.MinInt, -1, 0, 1, e.Lean - 1, e.Lean, e.Lean + 1, 5000, most, most + 1, math.MaxInt} {
			for bits := range 16 {
				starter := bits&8 != 0
				p := api.Plant{N1: 4000, N2: 5000, Heat: 450, Valve: valve, Lit: bits&1 != 0}
				d := api.Drive{Fuel: valve, Ignition: bits&2 != 0, Blow: bits&4 != 0, Starter: starter}
				n2 := gone(5000, 0, e.Lag2, 0, e.Disturb)
				if starter {
					n2 = gone(5000, e.Starter, e.Lag2, 0, e.Disturb)
				}
				want := api.Plant{N1: gone(4000, valueAt(e.N1, n2), e.Lag1, 0, e.Disturb), N2: n2, Heat: gone(450, 0, e.LagE, 0, e.Disturb), Valve: held(valve)}
				if got := Step(e, p, d); got != want {
					t.Errorf("the engine %d, %+v, %+v: %+v, not %+v", i, p, d, got, want)
				}
			}
		}
	}
}

// P21.1: N2 that is Light's is the one that was handed in: where Light is 0, one below 0 lights nothing.
func TestLightNothing(t *testing.T) {
	for _, e := range []api.Engine{least(), flat(700, 8, 3), flat(most, mostLag, most)} {
		for _, c := range []struct {
			n2  int
			lit bool
		}{{math.MinInt, false}, {-1, false}, {0, true}, {1, true}, {most + 1, true}, {math.MaxInt, true}} {
			if got := Step(e, api.Plant{N2: c.n2}, api.Drive{Fuel: 1, Open: true, Ignition: true}); got.Lit != c.lit {
				t.Errorf("%+v: %+v", c, got)
			}
		}
	}
}

// P21.1: where the parts of a bent engine come to at once, so that each table and each number is told from the others.
func TestWhereTo(t *testing.T) {
	e := quick(bent())
	burning := func(fuel int) api.Drive { return api.Drive{Fuel: fuel, Open: true} }
	for i, c := range []struct {
		lit  bool
		d    api.Drive
		want api.Plant
	}{
		{true, burning(110), api.Plant{N1: 1199, N2: 2100, Heat: 215, Valve: 110, Lit: true}},
		{true, burning(120), api.Plant{N1: 1199, N2: 2100, Heat: 221, Valve: 120, Lit: true}},
		{true, burning(260), api.Plant{N1: 2785, N2: 4550, Heat: 296, Valve: 260, Lit: true}},
		{true, burning(405), api.Plant{N1: 4500, N2: 7000, Heat: 374, Valve: 405, Lit: true}},
		{true, burning(1000), api.Plant{N1: 6401, N2: 9100, Heat: 1048, Valve: 1000, Lit: true}},
		{true, burning(2000), api.Plant{N1: 6401, N2: 9100, Heat: 1333, Valve: 2000, Lit: true}},
		{true, burning(109), api.Plant{N1: 310, Valve: 109}},
		{false, burning(260), api.Plant{N1: 310, Valve: 260}},
		{false, api.Drive{Fuel: 260, Starter: true}, api.Plant{N1: 1144, N2: 2000, Valve: 260}},
		{false, api.Drive{Fuel: 260, Open: true, Starter: true}, api.Plant{N1: 1144, N2: 2000, Valve: 260}},
		{true, api.Drive{Fuel: 260, Open: true, Starter: true}, api.Plant{N1: 2785, N2: 4550, Heat: 296, Valve: 260, Lit: true}},
		{true, api.Drive{Fuel: 260, Open: true, Starter: true, Blow: true}, api.Plant{N1: 1144, N2: 2000, Valve: 260}},
		{true, api.Drive{}, api.Plant{N1: 310}},
	} {
		p := api.Plant{N1: 99, N2: 98, Heat: 97, Valve: 96, Lit: c.lit}
		if got := Step(e, p, c.d); got != c.want {
			t.Errorf("%d: %+v, not %+v", i, got, c.want)
		}
	}
}

// P21.1: N1 goes on to what N2 is behind the frame, and not to what it was, nor to what it comes to.
func TestN1Follows(t *testing.T) {
	e := example()
	e.Lag1 = 1
	for _, c := range []struct{ n2, fuel, newN2, n1 int }{
		{0, 800, 1000, 800},
		{5000, 900, 5500, 4400},
		{5000, 500, 5000, 4000},
		{5000, 100, 4500, 3600},
		{-7, 800, 1000, 800},
		{most + 7, 800, most - 130072, 8000},
	} {
		got := Step(e, api.Plant{N2: c.n2, N1: 77, Valve: c.fuel, Lit: true}, api.Drive{Fuel: c.fuel, Open: true})
		if got.N2 != c.newN2 || got.N1 != c.n1 {
			t.Errorf("%+v: %+v", c, got)
		}
	}
	got := Step(e, api.Plant{N2: 5000, Valve: 500, Lit: true}, api.Drive{Fuel: 500, Open: true, Gust: [3]int{0, -3, 0}})
	if got.N2 != 4997 || got.N1 != 3997 {
		t.Errorf("with a gust: %+v", got)
	}
}

// P21.1: each gust alone: the first is N1's, the second N2's, the third Heat's.
func TestGusts(t *testing.T) {
	for _, gust := range []int{-2, 2, 3, -3, 4, -4, math.MaxInt, math.MinInt, 1<<32 + 2, -1<<32 - 2} {
		by := max(min(gust, 3), -3)
		one, two, three := running(), running(), running()
		one.N1 += by
		two.N2 += by
		three.Heat += by
		for i, want := range []api.Plant{one, two, three} {
			d := api.Drive{Fuel: 500, Open: true}
			d.Gust[i] = gust
			if got := Step(example(), running(), d); got != want {
				t.Errorf("%d in the place %d: %+v, not %+v", gust, i, got, want)
			}
		}
	}
}

// edges are numbers around 0, MaxNumber and the ends of an int, and those around what an engine has.
func edges(e api.Engine) []int {
	out := []int{math.MinInt, math.MinInt + 1, -1<<32 + 100, -1 << 31, -most, -1, 0, 1, most - 1, most, most + 1, 1 << 31, 1<<32 + 100, math.MaxInt - 1, math.MaxInt}
	for _, n := range []int{e.Lean, e.Light, e.Starter, e.Disturb, e.Disturb + e.Lag2, e.Lean + e.Slew, table.Peak(e.N2), table.Peak(e.N1), table.Peak(e.Heat)} {
		out = append(out, n-1, n, n+1, n/2, -n)
	}
	for _, part := range []api.Table{e.N2, e.N1, e.Heat} {
		out = append(append(out, part.X...), part.Y...)
	}
	return out
}

// plant and drive are such that dice tell, of these numbers.
func (d *dice) plant(of []int) api.Plant {
	return api.Plant{N1: d.one(of), N2: d.one(of), Heat: d.one(of), Valve: d.one(of), Lit: d.is()}
}

func (d *dice) drive(of []int) api.Drive {
	return api.Drive{Fuel: d.one(of), Open: d.upTo(4) != 0, Ignition: d.is(), Starter: d.is(), Gust: [3]int{d.one(of), d.one(of), d.one(of)}, Blow: d.upTo(4) == 0}
}

// seenOf are how often a flame was seen to stay, to come, to go, and not to come; and parts at 0 and at MaxNumber.
type seenOf struct {
	stays, comes, goes, none, empty, full int
}

func (s *seenOf) see(p, q api.Plant) {
	switch {
	case p.Lit && q.Lit:
		s.stays++
	case q.Lit:
		s.comes++
	case p.Lit:
		s.goes++
	default:
		s.none++
	}
	for _, n := range []int{q.N1, q.N2, q.Heat, q.Valve} {
		if n == 0 {
			s.empty++
		} else if n == most {
			s.full++
		}
	}
}

// P21.1: plants of every kind of engine, with numbers at all ends, driven in all ways: as told.
func TestStep(t *testing.T) {
	var seen seenOf
	for i, e := range engines() {
		d, of := dice(i), edges(e)
		for range 2000 {
			p, drive := d.plant(of), d.drive(of)
			got, want := Step(e, p, drive), told(e, p, drive)
			if got != want {
				t.Fatalf("the engine %d, %+v, %+v: %+v, not %+v", i, p, drive, got, want)
			}
			seen.see(p, got)
		}
	}
	if min(seen.stays, seen.comes, seen.goes, seen.none, seen.empty, seen.full) < 5000 {
		t.Errorf("%+v: too seldom to tell", seen)
	}
}

// P21.2: by hand.
func TestRiseAndEndsByHand(t *testing.T) {
	for name, c := range map[string]struct {
		change func(e *api.Engine)
		want   [4]int // Rise, and the ends of N1, N2 and Heat
	}{
		"example":            {func(e *api.Engine) {}, [4]int{1253, 8024, 10024, 912}},
		"bent":               {func(e *api.Engine) { *e = bent() }, [4]int{1831, 6500, 9155, 1366}},
		"turned":             {func(e *api.Engine) { *e = turned() }, [4]int{4011, 6500, 20055, 1366}},
		"undisturbed":        {func(e *api.Engine) { e.Disturb = 0 }, [4]int{1250, 8000, 10000, 900}},
		"disturbed by one":   {func(e *api.Engine) { e.Disturb = 1 }, [4]int{1251, 8008, 10008, 904}},
		"N2 as Starter":      {func(e *api.Engine) { e.Starter = 10000 }, [4]int{1253, 8024, 10024, 912}},
		"N2 below Starter":   {func(e *api.Engine) { e.Starter = 10001 }, [4]int{1253, 8024, 10025, 912}},
		"N2 far below it":    {func(e *api.Engine) { e.Starter = 20007 }, [4]int{2503, 8024, 20031, 912}},
		"N2 just above":      {func(e *api.Engine) { e.Starter = 9999 }, [4]int{1253, 8024, 10024, 912}},
		"a part left out":    {func(e *api.Engine) { e.N2 = line(1, 0, 10007) }, [4]int{1253, 8024, 10031, 912}},
		"none left out":      {func(e *api.Engine) { e.N2 = line(1, 0, 10008) }, [4]int{1254, 8024, 10032, 912}},
		"one lag of N2":      {func(e *api.Engine) { e.Lag2 = 1 }, [4]int{10003, 8024, 10003, 912}},
		"one lag of N1":      {func(e *api.Engine) { e.Lag1 = 1 }, [4]int{1253, 8003, 10024, 912}},
		"one lag of heat":    {func(e *api.Engine) { e.LagE = 1 }, [4]int{1253, 8024, 10024, 903}},
		"many lags":          {func(e *api.Engine) { e.Lag2, e.Lag1, e.LagE = 64, 63, 62 }, [4]int{159, 8189, 10192, 1086}},
		"nothing":            {func(e *api.Engine) { *e = least() }, [4]int{0, 0, 0, 0}},
		"only gusts":         {func(e *api.Engine) { *e = flat(0, 5, 7) }, [4]int{7, 35, 35, 35}},
		"only a starter":     {func(e *api.Engine) { *e = flat(0, 5, 7); e.Starter = 44 }, [4]int{15, 35, 79, 35}},
		"all there is":       {func(e *api.Engine) { *e = greatest() }, [4]int{most + most/64, most, most, most}},
		"much at once":       {func(e *api.Engine) { *e = flat(most, 1, most) }, [4]int{2 * most, most, most, most}},
		"just MaxNumber":     {func(e *api.Engine) { *e = flat(most-24, 8, 3) }, [4]int{131072, most, most, most}},
		"one below it":       {func(e *api.Engine) { *e = flat(most-25, 8, 3) }, [4]int{131068 + 3, most - 1, most - 1, most - 1}},
		"one above it":       {func(e *api.Engine) { *e = flat(most-23, 8, 3) }, [4]int{131069 + 3, most, most, most}},
		"gusts to MaxNumber": {func(e *api.Engine) { *e = flat(0, mostLag, most/mostLag) }, [4]int{16384, most, most, most}},
		"gusts just below":   {func(e *api.Engine) { *e = flat(0, mostLag, most/mostLag-1) }, [4]int{16383, most - 64, most - 64, most - 64}},
		"gusts far beyond":   {func(e *api.Engine) { *e = flat(0, mostLag, most) }, [4]int{most, most, most, most}},
	} {
		e := example()
		c.change(&e)
		n1, n2, heat := Ends(e)
		if got := [4]int{Rise(e), n1, n2, heat}; got != c.want {
			t.Errorf("%s: %v, not %v", name, got, c.want)
		}
	}
}

// endOf is how far a part goes at most, in words of its own.
func endOf(peak, lag, disturb int) int {
	sum := new(big.Int).Mul(big.NewInt(int64(lag)), big.NewInt(int64(disturb)))
	if sum.Add(sum, big.NewInt(int64(peak))); sum.Cmp(big.NewInt(most)) > 0 {
		return most
	}
	return int(sum.Int64())
}

// P21.2: engines with every Starter, Disturb and lag at its ends, and between: as told.
func TestRiseAndEnds(t *testing.T) {
	full := 0
	for i, e := range engines() {
		for _, disturb := range []int{0, 1, 3, most / mostLag, most - 1, most} {
			for _, lag := range []int{1, 2, 31, mostLag} {
				for _, starter := range []int{e.Light, e.Starter, table.Peak(e.N2), most} {
					if starter < e.Light {
						continue
					}
					e.Disturb, e.Lag2, e.Lag1, e.LagE, e.Starter = disturb, lag, mostLag+1-lag, (lag+3)/2, starter
					peak := max(slices.Max(e.N2.Y), starter)
					want := [4]int{peak/lag + disturb, endOf(slices.Max(e.N1.Y), e.Lag1, disturb), endOf(peak, lag, disturb), endOf(slices.Max(e.Heat.Y), e.LagE, disturb)}
					n1, n2, heat := Ends(e)
					if got := [4]int{Rise(e), n1, n2, heat}; got != want {
						t.Fatalf("the engine %d, %+v: %v, not %v", i, e, got, want)
					}
					if n1 == most || n2 == most || heat == most {
						full++
					}
				}
			}
		}
	}
	if full < 1000 {
		t.Errorf("%d came to MaxNumber: too seldom to tell", full)
	}
}

// numbersOf are frames of which Run goes through some, through none, and not at all.
func numbersOf() []int {
	return []int{math.MinInt, math.MinInt + 1, -1<<32 + 5, -longest, -2, -1, 0, longest + 1, longest + 2, 1 << 20, 1 << 31, 1<<32 + 5, math.MaxInt - 1, math.MaxInt}
}

// P21.1 to P21.3: of an engine that may not be there is an empty plant, and 0; but p itself where Run goes through no frame.
func TestBad(t *testing.T) {
	for name, e := range bad() {
		d, of := dice(len(name)), edges(api.Engine{})
		for range 20 {
			p, drive := d.plant(of), d.drive(of)
			if got := Step(e, p, drive); got != (api.Plant{}) {
				t.Errorf("%s: Step answers %+v", name, got)
			}
			for _, frames := range []int{1, 2, 3, 20} {
				if got := Run(e, p, drive, frames); got != (api.Plant{}) {
					t.Errorf("%s: %d frames answer %+v", name, frames, got)
				}
			}
			for _, frames := range numbersOf() {
				if got := Run(e, p, drive, frames); got != p {
					t.Errorf("%s: %d frames answer %+v, not %+v", name, frames, got, p)
				}
			}
		}
		if got := Run(e, running(), api.Drive{}, longest); got != (api.Plant{}) {
			t.Errorf("%s: the most frames answer %+v", name, got)
		}
		n1, n2, heat := Ends(e)
		if got := [4]int{Rise(e), n1, n2, heat}; got != [4]int{} {
			t.Errorf("%s: Rise and Ends answer %v", name, got)
		}
	}
}

// P21.3: with frames below 1, or above 10000, it is p itself, field by field, however beyond its numbers are.
func TestRunOfNothing(t *testing.T) {
	odd := api.Plant{N1: math.MinInt, N2: math.MaxInt, Heat: -5, Valve: most + 1, Lit: true}
	for i, e := range engines() {
		d, of := dice(i), edges(e)
		for _, frames := range numbersOf() {
			p, drive := d.plant(of), d.drive(of)
			if got := Run(e, p, drive, frames); got != p {
				t.Errorf("the engine %d, %d frames: %+v, not %+v", i, frames, got, p)
			}
			if got := Run(e, odd, drive, frames); got != odd {
				t.Errorf("the engine %d, %d frames: %+v, not %+v", i, frames, got, odd)
			}
		}
	}
}

// P21.3: by hand: an engine that its starter turns, and one whose valve has far to go.
func TestRunByHand(t *testing.T) {
	for _, c := range []struct{ frames, n2, n1 int }{
		{0, 0, 0}, {1, 187, 18}, {2, 351, 50}, {3, 494, 93}, {4, 619, 143},
	} {
		if got := Run(example(), api.Plant{}, api.Drive{Starter: true}, c.frames); got != (api.Plant{N2: c.n2, N1: c.n1}) {
			t.Errorf("%+v: %+v", c, got)
		}
	}
	slow := least()
	for _, c := range []struct{ frames, want int }{
		{-1, -7}, {0, -7}, {1, 1}, {2, 2}, {9999, 9999}, {10000, 10000}, {10001, -7}, {math.MaxInt, -7},
	} {
		if got := Run(slow, api.Plant{Valve: -7}, api.Drive{Fuel: most}, c.frames); got != (api.Plant{Valve: c.want}) {
			t.Errorf("%+v: %+v", c, got)
		}
	}
}

// P21.3: it is Step so many times.
func TestRun(t *testing.T) {
	for i, e := range engines() {
		d, of := dice(i+1000), edges(e)
		for range 5 {
			p, drive := d.plant(of), d.drive(of)
			q := p
			for frames := range 60 {
				if got := Run(e, p, drive, frames); got != q {
					t.Fatalf("the engine %d, %+v, %+v, %d frames: %+v, not %+v", i, p, drive, frames, got, q)
				}
				q = told(e, q, drive)
			}
		}
	}
}

// P21.3: it is Step so many times, up to the most.
func TestLongRuns(t *testing.T) {
	slow := example()
	slow.Slew, slow.Fuel = 1, line(1, 100, most)
	for i, e := range []api.Engine{example(), bent(), slow, greatest()} {
		drive := api.Drive{Fuel: most, Open: true, Ignition: true, Starter: true, Gust: [3]int{1, -1, i}}
		q := api.Plant{}
		for frames := range longest + 1 {
			if frames%1999 < 2 || frames >= longest-2 {
				if got := Run(e, api.Plant{}, drive, frames); got != q {
					t.Fatalf("the engine %d, %d frames: %+v, not %+v", i, frames, got, q)
				}
			}
			q = told(e, q, drive)
		}
	}
}

// P21.4: N2 rises by at most Rise a frame, and comes to rise so; from below 0 it rises so from 0.
func TestRises(t *testing.T) {
	at := 0
	for i, e := range engines() {
		d, of, most := dice(i), edges(e), Rise(e)
		for range 1000 {
			p, drive := d.plant(of), d.drive(of)
			got := Step(e, p, drive)
			if got.N2-max(p.N2, 0) > most {
				t.Fatalf("the engine %d, %+v, %+v: %+v rises by more than %d", i, p, drive, got, most)
			}
			if got.N2 == most && p.N2 <= 0 {
				at++
			}
		}
	}
	if at < 500 {
		t.Errorf("%d rose so: too seldom to tell", at)
	}
}

// P21.4: N2 that begins from rest, with the greatest gust and all fuel, rises by just Rise.
func TestRisesSo(t *testing.T) {
	for i, e := range engines() {
		top := e.N2.X[len(e.N2.X)-1]
		drive := api.Drive{Fuel: most, Open: true, Gust: [3]int{0, math.MaxInt, 0}}
		if e.Starter > table.Peak(e.N2) {
			drive = api.Drive{Starter: true, Gust: drive.Gust}
		}
		got := Step(e, api.Plant{Valve: max(top, e.Lean), Lit: true}, drive)
		if got.N2 != min(Rise(e), most) {
			t.Errorf("the engine %d: %+v, not %d", i, got, Rise(e))
		}
	}
}

// above tells whether a plant is above an end of an engine.
func above(e api.Engine, p api.Plant) bool {
	n1, n2, heat := Ends(e)
	return p.N1 > n1 || p.N2 > n2 || p.Heat > heat
}

// P21.4: what is not above its end stays so, wherever it begins, however it is driven and blown about.
func TestStaysBelow(t *testing.T) {
	reached := 0
	for i, e := range engines() {
		n1, n2, heat := Ends(e)
		d, of := dice(i), edges(e)
		for range 40 {
			p := api.Plant{N1: n1 - d.upTo(3), N2: n2 - d.upTo(3), Heat: heat - d.upTo(3), Valve: d.one(of), Lit: d.is()}
			for range 50 {
				drive := d.drive(of)
				if d.is() {
					drive.Fuel, drive.Open, drive.Starter, drive.Blow, drive.Gust = most, true, true, false, [3]int{e.Disturb, e.Disturb, e.Disturb}
				}
				if p = Step(e, p, drive); above(e, p) {
					t.Fatalf("the engine %d, %+v, is above %d, %d, %d: %+v", i, p, n1, n2, heat, drive)
				}
				if p.N2 == n2 || p.N1 == n1 || p.Heat == heat {
					reached++
				}
			}
		}
	}
	if reached < 5000 {
		t.Errorf("%d came to an end: too seldom to tell", reached)
	}
}

// P21.4: each part stays below its end by itself: from all there is below it, with the greatest gust.
func TestStaysBelowByItself(t *testing.T) {
	for _, target := range []int{0, 1, 70, 1000} {
		for _, lag := range []int{1, 2, 3, 7, mostLag} {
			for _, disturb := range []int{0, 1, 2, 5, 40} {
				e := flat(target, lag, disturb)
				end, _, _ := Ends(e)
				for x := range end + 1 {
					got := Step(e, api.Plant{N1: x, N2: x, Heat: x, Valve: 1, Lit: true}, api.Drive{Fuel: 1, Open: true, Gust: [3]int{most, most, most}})
					if above(e, got) {
						t.Fatalf("target %d, lag %d, disturb %d, from %d: %+v is above %d", target, lag, disturb, x, got, end)
					}
				}
				over := api.Plant{N1: end, N2: end, Heat: end, Valve: 1, Lit: true}
				if got := Step(e, over, api.Drive{Fuel: 1, Open: true, Gust: [3]int{most, most, most}}); got != over {
					t.Fatalf("target %d, lag %d, disturb %d: %+v does not stay at its end", target, lag, disturb, got)
				}
			}
		}
	}
}

// kind is what drives an engine alike for long, and what it comes to: it burns, or stands without fuel, or its starter turns it.
type kind struct {
	name          string
	drive         api.Drive
	lit           bool
	fuel, n2, hot int
}

// kinds are those of an engine, with so much fuel.
func kinds(e api.Engine, fuel int) []kind {
	n2, heat := valueAt(e.N2, fuel), valueAt(e.Heat, fuel)
	return []kind{
		{"it burns", api.Drive{Fuel: fuel, Open: true}, true, fuel, n2, heat},
		{"it burns, and the starter is on", api.Drive{Fuel: fuel, Open: true, Starter: true, Ignition: true}, true, fuel, n2, heat},
		{"it is blown out", api.Drive{Fuel: fuel, Open: true, Blow: true}, false, fuel, 0, 0},
		{"no fuel is open", api.Drive{Fuel: fuel}, false, fuel, 0, 0},
		{"no fuel", api.Drive{Open: true, Ignition: true}, false, 0, 0, 0},
		{"it is too lean", api.Drive{Fuel: e.Lean - 1, Open: true, Ignition: true}, false, e.Lean - 1, 0, 0},
		{"the starter turns it", api.Drive{Fuel: fuel, Starter: true, Ignition: true}, false, fuel, e.Starter, 0},
		{"the starter turns it, with fuel", api.Drive{Fuel: fuel, Open: true, Starter: true, Blow: true}, false, fuel, e.Starter, 0},
	}
}

// beside tells whether two numbers are less than a lag apart.
func beside(a, b, lag int) bool { return max(a, b)-min(a, b) < lag }

// P21.4: driven alike, without gusts, for long, each part is less than a lag beside where it comes to, and stays there.
func TestComesTo(t *testing.T) {
	for i, e := range engines() {
		d := dice(i)
		for _, fuel := range []int{e.Lean, e.Lean + d.upTo(400), e.Lean + d.upTo(1200)} {
			fuel = min(fuel, most)
			for _, k := range kinds(e, fuel) {
				from := api.Plant{N1: d.upTo(12000), N2: d.upTo(12000), Heat: d.upTo(2000), Valve: max(fuel, e.Lean+e.Slew), Lit: k.lit}
				got := Run(e, from, k.drive, 2500)
				if got.Lit != k.lit || got.Valve != k.fuel {
					t.Fatalf("the engine %d, %d, %s: %+v", i, fuel, k.name, got)
				}
				if !beside(got.N2, k.n2, e.Lag2) || !beside(got.N1, valueAt(e.N1, got.N2), e.Lag1) || !beside(got.Heat, k.hot, e.LagE) {
					t.Fatalf("the engine %d, %d, %s: %+v, not beside %d and %d", i, fuel, k.name, got, k.n2, k.hot)
				}
				if again := Step(e, got, k.drive); again != got {
					t.Fatalf("the engine %d, %d, %s: %+v does not stay: %+v", i, fuel, k.name, got, again)
				}
			}
		}
	}
}

// P21.4: by hand: where the example comes to from above, and from below: within a lag, and not always just there.
func TestComesToByHand(t *testing.T) {
	burning := api.Drive{Fuel: 500, Open: true}
	for name, c := range map[string]struct {
		from api.Plant
		d    api.Drive
		want api.Plant
	}{
		"from below":    {api.Plant{Valve: 500, Lit: true}, burning, api.Plant{N1: 3987, N2: 4993, Heat: 447, Valve: 500, Lit: true}},
		"from above":    {api.Plant{N1: 9000, N2: 9000, Heat: 900, Valve: 500, Lit: true}, burning, api.Plant{N1: 4012, N2: 5007, Heat: 453, Valve: 500, Lit: true}},
		"just there":    {running(), burning, running()},
		"it goes out":   {running(), api.Drive{}, api.Plant{N1: 12, N2: 7, Heat: 3}},
		"it is turned":  {api.Plant{}, api.Drive{Starter: true}, api.Plant{N1: 1187, N2: 1493}},
		"it is at rest": {api.Plant{}, api.Drive{}, api.Plant{}},
	} {
		if got := Run(example(), c.from, c.d, 1000); got != c.want {
			t.Errorf("%s: %+v, not %+v", name, got, c.want)
		}
	}
}

// P21.4: an engine is turned, lit, run, blown out, and lit again, as one that is driven frame by frame.
func TestFromRest(t *testing.T) {
	e := example()
	p := Run(e, api.Plant{}, api.Drive{Starter: true}, 200)
	if p.Lit || p.N2 < e.Light {
		t.Fatalf("turned: %+v", p)
	}
	p = Run(e, p, api.Drive{Fuel: 200, Open: true, Ignition: true, Starter: true}, 200)
	if !p.Lit || !beside(p.N2, 2000, e.Lag2) {
		t.Fatalf("lit: %+v", p)
	}
	p = Run(e, p, api.Drive{Fuel: 800, Open: true}, 400)
	if !p.Lit || !beside(p.N2, 8000, e.Lag2) {
		t.Fatalf("run: %+v", p)
	}
	p = Step(e, p, api.Drive{Fuel: 800, Open: true, Blow: true, Ignition: true})
	if p.Lit {
		t.Fatalf("blown out: %+v", p)
	}
	if q := Step(e, p, api.Drive{Fuel: 800, Open: true}); q.Lit {
		t.Fatalf("lit without ignition: %+v", q)
	}
	if q := Step(e, p, api.Drive{Fuel: 800, Open: true, Ignition: true}); !q.Lit {
		t.Fatalf("not lit again: %+v", q)
	}
}

// tablesOf are an engine's.
func tablesOf(e *api.Engine) [4]*api.Table { return [4]*api.Table{&e.Fuel, &e.N2, &e.N1, &e.Heat} }

// roomy is an engine whose lists have spare room behind them, that is filled; and all of each.
func roomy(e api.Engine, filler int) (api.Engine, [][]int) {
	var whole [][]int
	room := func(l []int) []int {
		all := append(append(make([]int, 0, len(l)+3), l...), filler, filler, filler)
		whole = append(whole, all)
		return all[:len(l)]
	}
	for _, t := range tablesOf(&e) {
		t.X, t.Y = room(t.X), room(t.Y)
	}
	return e, whole
}

// answer is what all calls answer.
type answer struct {
	step, run api.Plant
	numbers   [4]int
}

func answers(e api.Engine, p api.Plant, d api.Drive, frames int) answer {
	n1, n2, heat := Ends(e)
	return answer{Step(e, p, d), Run(e, p, d, frames), [4]int{Rise(e), n1, n2, heat}}
}

// everyEngine are those that may be, and those that may not, in order.
func everyEngine() []api.Engine {
	out := engines()
	for _, name := range slices.Sorted(maps.Keys(bad())) {
		out = append(out, bad()[name])
	}
	return out
}

// R4, R5: an engine that is handed in is as it was, spare room included, whatever stands there; and the same call again, behind others, answers the same.
func TestHandedIn(t *testing.T) {
	for i, plain := range everyEngine() {
		d, of := dice(i), edges(api.Engine{})
		p, drive, frames := d.plant(of), d.drive(of), d.upTo(20)
		want := answers(plain, p, drive, frames)
		for _, filler := range []int{math.MinInt, 0, 7, most, math.MaxInt} {
			e, whole := roomy(plain, filler)
			var was [][]int
			for _, l := range whole {
				was = append(was, slices.Clone(l))
			}
			first := answers(e, p, drive, frames)
			answers(bent(), d.plant(of), d.drive(of), 3)
			again := answers(e, p, drive, frames)
			if first != want || again != want {
				t.Fatalf("%d, %+v, %+v: %+v, then %+v, not %+v", i, p, drive, first, again, want)
			}
			if !slices.EqualFunc(whole, was, slices.Equal[[]int]) {
				t.Fatalf("%d: %v became %v", i, was, whole)
			}
		}
	}
}

// P21.1: what goes on with one engine's gusts hangs on no other one's.
func TestGoesOnApart(t *testing.T) {
	calm, windy := goesOn(0), goesOn(9)
	for range 3 {
		if a, b := calm(100, 180, 8, 50), windy(100, 180, 8, 50); a != 110 || b != 119 {
			t.Errorf("%d, and %d", a, b)
		}
	}
}
