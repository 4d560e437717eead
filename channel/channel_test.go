package channel

import (
	"math"
	"slices"
	"testing"

	"turbojet/api"
	"turbojet/mode"
)

// on is a panel with Master and Start.
func on(lever int) api.Panel { return api.Panel{Master: true, Start: true, Lever: lever} }

// P22.2: the chapter's first example.
func TestExampleOfStart(t *testing.T) {
	for me := range 2 {
		c, o, k := Step(example(), me, api.Channel{}, api.Sight{Panel: on(0)})
		first := api.Watch{Right: 1, Begun: true}
		want := api.Channel{
			Watch: [api.Signals]api.Watch{first, first, first, first, first},
			Phase: api.Phase{Mode: api.MStart}, Health: api.Health{Score: 255}, From: five{1, 1, 1, 1, 1}, Frame: 1,
		}
		if c != want || o != (api.Orders{Starter: true}) {
			t.Errorf("%d: %+v, %+v", me, c, o)
		}
		if k != (api.Packet{From: me, Frame: 1, Good: each, Mode: api.MStart, Score: 255}) {
			t.Errorf("%d: %+v", me, k)
		}
	}
}

// running is what the chapter's second example sees of itself.
func running() five { return five{4000, 5000, 450, 1000, 500} }

// P22.2: the chapter's second example.
func TestExampleOfRun(t *testing.T) {
	was := api.Channel{Phase: api.Phase{Mode: api.MRun}, Command: 500}
	c, o, k := Step(example(), 1, was, api.Sight{Own: running(), Panel: on(1000), Lit: true})
	if c.Command != 550 || c.Phase != (api.Phase{Mode: api.MRun, Since: 1}) || c.Taken != running() || c.From != (five{1, 1, 1, 1, 1}) {
		t.Errorf("%+v", c)
	}
	if o != (api.Orders{Open: true, Fuel: true}) {
		t.Errorf("%+v", o)
	}
	if k != (api.Packet{From: 1, Frame: 1, Values: running(), Good: each, Mode: api.MRun, Score: 255}) {
		t.Errorf("%+v", k)
	}
}

// P22.3: each of the signals lost alone, all, none, and every other set of them; what else a Watch has does not matter.
func TestLost(t *testing.T) {
	for set := range 1 << api.Signals {
		for _, odd := range []api.Watch{{}, {Last: 7, Same: 9, Wrong: math.MaxInt, Right: math.MinInt, Begun: true}} {
			c := api.Channel{Phase: api.Phase{Mode: api.MRun}, Command: 5, From: five{3, 3, 3, 3, 3}}
			var want flags
			for i := range want {
				want[i] = set>>i&1 == 1
				c.Watch[i] = odd
				c.Watch[i].Lost = want[i]
			}
			if got := Lost(c); got != want {
				t.Errorf("%v, not %v", got, want)
			}
		}
	}
}

// nothing tells whether nothing at all was answered.
func nothing(c api.Channel, o api.Orders, k api.Packet) bool {
	return c == api.Channel{} && o == api.Orders{} && k == api.Packet{}
}

// burning is a channel that runs, and a sight with which it goes on.
func burning() (api.Channel, api.Sight) {
	other := api.Packet{From: 1, Frame: 6, Values: running(), Good: each, Mode: api.MRun, Score: 255}
	return api.Channel{Phase: api.Phase{Mode: api.MRun}, Command: 500, Taken: running(), Frame: 6}, api.Sight{Own: running(), Other: other, Heard: true, Panel: on(1000), Lit: true}
}

// P22.2: of a plan that may not be there is nothing, whoever is asked.
func TestBadPlans(t *testing.T) {
	c, s := burning()
	for i, p := range bad() {
		for _, me := range []int{-1, 0, 1, 2} {
			if next, o, k := Step(p, me, c, s); !nothing(next, o, k) {
				t.Errorf("the plan %d, %d: %+v, %+v, %+v", i, me, next, o, k)
			}
			if next, o, k := Step(p, me, api.Channel{}, api.Sight{}); !nothing(next, o, k) {
				t.Errorf("the plan %d, %d, at rest: %+v, %+v, %+v", i, me, next, o, k)
			}
		}
	}
}

// P22.2: of one that is neither 0 nor 1 there is nothing; 0 and 1 are answered alike, but for From.
func TestWho(t *testing.T) {
	c, s := burning()
	for _, name := range names(plans()) {
		p := plans()[name]
		for _, me := range append(endsOfInt(), 2, 3, -2, 255, 256, 257) {
			if me == 0 || me == 1 {
				continue
			}
			if next, o, k := Step(p, me, c, s); !nothing(next, o, k) {
				t.Errorf("%s, %d: %+v, %+v, %+v", name, me, next, o, k)
			}
		}
		a, ordersA, toldA := Step(p, 0, c, s)
		b, ordersB, toldB := Step(p, 1, c, s)
		if toldA.From != 0 || toldB.From != 1 {
			t.Errorf("%s: from %d and %d", name, toldA.From, toldB.From)
		}
		toldB.From = 0
		if nothing(a, ordersA, toldA) || a != b || ordersA != ordersB || toldA != toldB {
			t.Errorf("%s: %+v, and %+v", name, a, b)
		}
	}
}

// P22.2: each own signal, by hand: first seen, wrong, lost, and good again, while the others are good.
func TestOwnSignals(t *testing.T) {
	for signal := range api.Signals {
		p := example()
		p.Limits[signal] = api.Limit{Low: 0, High: 100, Rate: 10, Stuck: 4, Bad: 2, Fine: 3}
		var c api.Channel
		for i, v := range []struct {
			own        int
			good, lost bool
			watch      api.Watch
		}{
			{50, true, false, api.Watch{Last: 50, Right: 1, Begun: true}},
			{55, true, false, api.Watch{Last: 55, Right: 2, Begun: true}},
			{90, false, false, api.Watch{Last: 90, Wrong: 1, Begun: true}},
			{55, false, true, api.Watch{Last: 55, Wrong: 2, Lost: true, Begun: true}},
			{55, false, true, api.Watch{Last: 55, Same: 1, Right: 1, Lost: true, Begun: true}},
			{56, false, true, api.Watch{Last: 56, Right: 2, Lost: true, Begun: true}},
			{57, true, false, api.Watch{Last: 57, Right: 3, Begun: true}},
			{-1, false, false, api.Watch{Last: -1, Wrong: 1, Begun: true}},
			{0, true, false, api.Watch{Last: 0, Right: 1, Begun: true}},
			{0, true, false, api.Watch{Last: 0, Same: 1, Right: 2, Begun: true}},
			{0, true, false, api.Watch{Last: 0, Same: 2, Right: 3, Begun: true}},
			{0, true, false, api.Watch{Last: 0, Same: 3, Right: 4, Begun: true}},
			{0, false, false, api.Watch{Last: 0, Same: 4, Wrong: 1, Begun: true}},
			{math.MinInt, false, true, api.Watch{Last: leastOf, Wrong: 2, Lost: true, Begun: true}},
			{math.MaxInt, false, true, api.Watch{Last: mostOf, Wrong: 3, Lost: true, Begun: true}},
		} {
			var own five
			own[signal] = v.own
			next, _, k := Step(p, 0, c, api.Sight{Own: own})
			good, lost := each, flags{}
			good[signal], lost[signal] = v.good, v.lost
			if k.Good != good || Lost(next) != lost || next.Watch[signal] != v.watch {
				t.Errorf("the signal %d, %d: %+v, %v, %+v", signal, i, k.Good, Lost(next), next.Watch[signal])
			}
			for other, w := range next.Watch {
				if other != signal && w != (api.Watch{Same: i, Right: i + 1, Begun: true}) {
					t.Errorf("the signal %d beside %d, %d: %+v", other, signal, i, w)
				}
			}
			c = next
		}
	}
}

// P22.2: each signal goes by its own Limit, and none by another one's.
func TestOwnLimits(t *testing.T) {
	p := example()
	for i := range p.Limits {
		p.Limits[i] = api.Limit{Low: 100 * i, High: 100*i + 50, Rate: 5 + i, Bad: i + 1, Fine: i + 1}
	}
	for i := range api.Signals {
		for _, v := range around(100*i, 100*i+50) {
			own := five{25, 125, 225, 325, 425}
			own[i] = v
			c, _, k := Step(p, 0, api.Channel{}, api.Sight{Own: own})
			want, lost := each, flags{}
			want[i] = 100*i <= v && v <= 100*i+50
			lost[i] = i == 0 && !want[i]
			if k.Good != want || Lost(c) != lost {
				t.Errorf("the signal %d at %d: %v, %v", i, v, k.Good, Lost(c))
			}
		}
		for by := range 12 {
			c, _, _ := Step(p, 0, api.Channel{}, api.Sight{Own: five{25, 125, 225, 325, 425}})
			own := five{25, 125, 225, 325, 425}
			own[i] += by
			_, _, k := Step(p, 0, c, api.Sight{Own: own})
			want := each
			want[i] = by <= 5+i
			if k.Good != want {
				t.Errorf("the signal %d, by %d: %v", i, by, k.Good)
			}
		}
	}
}

// P22.2: by hand, of each signal: the own value, the other's, the model's, each taken alone; the mean of both, if they are near; else the one that is nearer to the model's. The model's are of what was taken before, as it was: 2400, 2000, 180, 700 and 300.
func TestTaken(t *testing.T) {
	before, model := five{1600, 3000, 77, 700, 200}, five{2400, 2000, 180, 700, 300}
	for _, c := range []struct {
		own, other         int // beside the model's value
		goodOwn, goodOther bool
		heard              bool
		want, from         int
	}{
		{40, 60, false, false, true, 0, api.TModel},
		{40, 60, false, false, false, 0, api.TModel},
		{40, 60, false, true, false, 0, api.TModel},
		{40, 60, true, false, true, 40, api.TOne},
		{40, 60, true, false, false, 40, api.TOne},
		{40, 60, true, true, false, 40, api.TOne},
		{40, 9000, true, true, false, 40, api.TOne},
		{40, 60, false, true, true, 60, api.TTwo},
		{40, 60, true, true, true, 50, api.TBoth},
		{60, 40, true, true, true, 50, api.TBoth},
		{40, 61, true, true, true, 50, api.TBoth},
		{40, 40, true, true, true, 40, api.TBoth},
		{-49, 50, true, true, true, 0, api.TBoth},
		{-50, 50, true, true, true, 0, api.TBoth},
		{-51, 50, true, true, true, 50, api.TTwo},
		{-50, 51, true, true, true, -50, api.TOne},
		{50, -51, true, true, true, 50, api.TOne},
		{51, -50, true, true, true, -50, api.TTwo},
		{51, -51, true, true, true, 51, api.TOne},
		{-51, 51, true, true, true, -51, api.TOne},
		{20, 120, true, true, true, 70, api.TBoth},
		{20, 121, true, true, true, 20, api.TOne},
		{121, 20, true, true, true, 20, api.TTwo},
		{121, 20, true, true, false, 121, api.TOne},
		{121, 20, true, false, true, 121, api.TOne},
		{121, 20, false, true, true, 20, api.TTwo},
	} {
		for signal := range api.Signals {
			s := api.Sight{Heard: c.heard, Panel: on(0)}
			was := api.Channel{Taken: before}
			for i := range api.Signals {
				was.Watch[i] = api.Watch{Lost: true}
			}
			s.Own, s.Other.Values = model, model
			s.Own[signal] += c.own
			s.Other.Values[signal] += c.other
			s.Other.Good[signal], was.Watch[signal].Lost = c.goodOther, !c.goodOwn
			next, _, _ := Step(example(), 0, was, s)
			want, from := model, five{}
			want[signal] += c.want
			from[signal] = c.from
			if next.Taken != want || next.From != from {
				t.Errorf("the signal %d, %+v: %v from %v", signal, c, next.Taken, next.From)
			}
		}
	}
}

// P22.2: each signal goes by its own Near.
func TestNear(t *testing.T) {
	p := example()
	p.Near = five{0, 10, 20, 30, 40}
	for signal, near := range p.Near {
		for _, apart := range around(near) {
			s := api.Sight{Heard: true, Own: running(), Other: api.Packet{Values: running(), Good: each}}
			s.Other.Values[signal] -= apart
			next, _, _ := Step(p, 0, api.Channel{Taken: running()}, s)
			want := five{3, 3, 3, 3, 3}
			if apart > near {
				want[signal] = api.TOne
			}
			if apart >= 0 && next.From != want {
				t.Errorf("the signal %d, %d apart: %v", signal, apart, next.From)
			}
		}
	}
}

// P22.2: a model's value is of what was taken before, and not of what is taken now.
func TestModelOfBefore(t *testing.T) {
	was := api.Channel{Taken: five{1600, 3000, 77, 700, 200}}
	lost := func(signals ...int) (api.Channel, api.Sight) {
		c, s := was, api.Sight{Own: five{4000, 5000, 450, 1000, 500}, Panel: on(0)}
		for _, i := range signals {
			c.Watch[i].Lost = true
		}
		return c, s
	}
	for _, x := range []struct {
		signals []int
		want    five
	}{
		{nil, five{4000, 5000, 450, 1000, 500}},
		{[]int{api.SN1}, five{2400, 5000, 450, 1000, 500}},
		{[]int{api.SN2}, five{4000, 2000, 450, 1000, 500}},
		{[]int{api.SEGT}, five{4000, 5000, 180, 1000, 500}},
		{[]int{api.SPLA}, five{4000, 5000, 450, 700, 500}},
		{[]int{api.SValve}, five{4000, 5000, 450, 1000, 300}},
		{[]int{api.SN1, api.SN2}, five{2400, 2000, 450, 1000, 500}},
		{[]int{api.SN1, api.SN2, api.SEGT, api.SPLA, api.SValve}, five{2400, 2000, 180, 700, 300}},
	} {
		c, s := lost(x.signals...)
		next, _, _ := Step(example(), 0, c, s)
		if next.Taken != x.want {
			t.Errorf("%v: %v", x.signals, next.Taken)
		}
	}
	c, s := lost(api.SN1, api.SN2, api.SEGT, api.SPLA, api.SValve)
	for _, want := range []five{{2400, 2000, 180, 700, 300}, {1600, 3000, 270, 700, 200}, {2400, 2000, 180, 700, 300}} {
		s.Own[api.SPLA] += 50
		for i := range c.Watch {
			c.Watch[i].Right = 0
		}
		if c, _, _ = Step(example(), 0, c, s); c.Taken != want || c.From != (five{}) {
			t.Errorf("%v, not %v", c.Taken, want)
		}
	}
}

// panel is one with those switches on: m the Master, s Start, c Crank, r Revert.
func panel(switches string, lever int) api.Panel {
	p := api.Panel{Lever: lever}
	for _, c := range switches {
		switch c {
		case 'm':
			p.Master = true
		case 's':
			p.Start = true
		case 'c':
			p.Crank = true
		case 'r':
			p.Revert = true
		}
	}
	return p
}

// ordered are orders: s the starter, i ignition, f fuel, that is open.
func ordered(letters string) api.Orders {
	var o api.Orders
	for _, c := range letters {
		switch c {
		case 's':
			o.Starter = true
		case 'i':
			o.Ignition = true
		case 'f':
			o.Open, o.Fuel = true, true
		}
	}
	return o
}

// stepped is a mode, for how many frames, what is seen in it, and what follows.
type stepped struct {
	mode, since int
	panel       api.Panel
	lit         bool
	n2, heat    int
	to, then    int
	orders      string
}

// atRest are frames of the modes that do not burn, by hand.
func atRest() []stepped {
	return []stepped{
		{api.MOff, 3, panel("", 0), false, 0, 0, api.MOff, 4, ""},
		{api.MOff, 3, panel("m", 0), false, 0, 0, api.MOff, 4, ""},
		{api.MOff, 3, panel("s", 0), false, 0, 0, api.MOff, 4, ""},
		{api.MOff, 3, panel("ms", 0), false, 0, 0, api.MStart, 0, "s"},
		{api.MOff, 3, panel("msc", 0), false, 0, 0, api.MStart, 0, "s"},
		{api.MOff, 3, panel("c", 0), false, 0, 0, api.MCrank, 0, "s"},
		{api.MOff, 3, panel("mc", 0), false, 0, 0, api.MOff, 4, ""},
		{api.MOff, -7, panel("r", 0), true, 9000, 9000, api.MOff, 1, ""},
		{api.MCrank, 3, panel("c", 0), false, 1500, 0, api.MCrank, 4, "s"},
		{api.MCrank, 3, panel("", 0), false, 1500, 0, api.MOff, 0, ""},
		{api.MCrank, 3, panel("mc", 0), false, 1500, 0, api.MOff, 0, ""},
		{api.MStart, 3, panel("", 0), false, 999, 0, api.MShut, 0, ""},
		{api.MStart, 3, panel("ms", 0), false, 999, 0, api.MStart, 4, "s"},
		{api.MStart, 3, panel("ms", 0), false, 1000, 0, api.MLight, 0, "sif"},
		{api.MStart, 199, panel("m", 0), false, 999, 0, api.MStart, 200, "s"},
		{api.MStart, 200, panel("m", 0), false, 999, 0, api.MAbort, 0, ""},
		{api.MStart, 200, panel("m", 0), false, 1000, 0, api.MLight, 0, "sif"},
		{api.MShut, 3, panel("", 0), true, 1000, 0, api.MShut, 4, ""},
		{api.MShut, 3, panel("m", 0), true, 999, 0, api.MShut, 4, ""},
		{api.MShut, 3, panel("", 0), true, 999, 0, api.MOff, 0, ""},
		{api.MAbort, 3, panel("ms", 0), true, 5000, 0, api.MAbort, 4, ""},
		{api.MAbort, 3, panel("", 0), true, 5000, 0, api.MShut, 0, ""},
		{-1, 3, panel("ms", 0), true, 5000, 0, api.MOff, 0, ""},
		{9, 3, panel("ms", 0), true, 5000, 0, api.MOff, 0, ""},
		{math.MaxInt, math.MaxInt, panel("c", 0), true, 5000, 0, api.MOff, 0, ""},
		{math.MinInt, math.MinInt, panel("", 0), true, 5000, 0, api.MOff, 0, ""},
	}
}

// withFuel are frames of the modes that have fuel, by hand.
func withFuel() []stepped {
	out := []stepped{
		{api.MLight, 3, panel("m", 0), false, 1500, 500, api.MLight, 4, "sif"},
		{api.MLight, 3, panel("m", 0), false, 500, 500, api.MLight, 4, "sif"},
		{api.MRelight, 3, panel("m", 0), false, 1000, 500, api.MRelight, 4, "if"},
		{api.MRelight, 3, panel("m", 0), false, 999, 500, api.MRelight, 4, "sif"},
		{api.MIdle, 3, panel("m", 49), true, 1800, 500, api.MIdle, 4, "f"},
		{api.MIdle, 3, panel("m", 50), true, 1800, 500, api.MRun, 0, "f"},
		{api.MRun, 3, panel("m", 50), true, 1800, 500, api.MRun, 4, "f"},
		{api.MRun, 3, panel("m", 49), true, 1800, 500, api.MIdle, 0, "f"},
		{api.MRun, 1 << 30, panel("ms", 1000), true, 9000, 9000, api.MRun, 1 << 30, "f"},
	}
	for _, m := range []int{api.MLight, api.MRelight} {
		out = append(out,
			stepped{m, 3, panel("s", 0), false, 1500, 500, api.MShut, 0, ""},
			stepped{m, 3, panel("m", 0), true, 1800, 999, api.MIdle, 0, "f"},
			stepped{m, 3, panel("m", 900), true, 1800, 500, api.MIdle, 0, "f"},
			stepped{m, 3, panel("m", 0), true, 1800, 1000, api.MAbort, 0, ""},
			stepped{m, 200, panel("m", 0), true, 1800, 500, api.MIdle, 0, "f"},
			stepped{m, 200, panel("m", 0), false, 1800, 500, api.MAbort, 0, ""},
			stepped{m, 200, panel("m", 0), true, 1799, 500, api.MAbort, 0, ""},
		)
	}
	for _, m := range []int{api.MIdle, api.MRun} {
		out = append(out,
			stepped{m, 3, panel("", 900), true, 1800, 500, api.MShut, 0, ""},
			stepped{m, 3, panel("m", 0), false, 1000, 500, api.MRelight, 0, "if"},
			stepped{m, 3, panel("m", 900), false, 999, 500, api.MRelight, 0, "sif"},
		)
	}
	return out
}

// P22.2: a mode of each kind, with speeds and heat that are its own, the other's, and the model's: what is taken of SN2 and SEGT tells what follows, and what is ordered.
func TestModes(t *testing.T) {
	for _, x := range slices.Concat(atRest(), withFuel()) {
		seen := five{0, x.n2, x.heat, 700, 300}
		for from := range 3 {
			if from == api.TModel && x.heat > 900 {
				continue // no valve brings so much
			}
			c := api.Channel{Phase: api.Phase{Mode: x.mode, Since: x.since}}
			s := api.Sight{Own: seen, Panel: x.panel, Lit: x.lit}
			if from != api.TOne {
				s.Own = five{1, 2, 3, 4, 5}
				c.Watch[api.SN2].Lost, c.Watch[api.SEGT].Lost = true, true
			}
			if from == api.TTwo {
				s.Other, s.Heard = api.Packet{Values: seen, Good: flags{api.SN2: true, api.SEGT: true}}, true
			}
			if from == api.TModel { // N1 of which N2 is the model's, and a valve of which the heat is
				c.Taken = five{api.SN1: x.n2 * 8 / 10, api.SValve: (x.heat*10 + 8) / 9}
			}
			next, o, k := Step(example(), 0, c, s)
			if next.Phase != (api.Phase{Mode: x.to, Since: x.then}) || o != ordered(x.orders) || k.Mode != x.to || next.From[api.SN2] != from || next.From[api.SEGT] != from {
				t.Errorf("%+v, from %d: %+v, %+v", x, from, next, o)
			}
		}
	}
}

// fueled is a mode, what is taken in it, the pilot's lever, and the fuel then.
type fueled struct{ mode, n1, n2, heat, pla, lever, want int }

// free are such, far from the greatest speeds and heat, by hand: the lever is the one that was taken, and not the pilot's.
func free() []fueled {
	return []fueled{
		// MRun: the lever that was taken, and not the one that the pilot sets
		{api.MRun, 0, 5000, 0, 500, 1000, 550},
		{api.MRun, 0, 5000, 0, 500, 50, 550},
		{api.MRun, 0, 5000, 0, 642, 1000, 649},
		{api.MRun, 0, 5000, 0, 643, 1000, 650},
		{api.MRun, 0, 5000, 0, 644, 1000, 650},
		{api.MRun, 0, 5000, 0, 1000, 1000, 650},
		{api.MRun, 0, 5000, 0, 1001, 1000, 650},
		{api.MRun, 0, 5000, 0, 143, 1000, 300},
		{api.MRun, 0, 5000, 0, 142, 1000, 300},
		{api.MRun, 0, 5000, 0, 0, 1000, 300},
		{api.MRun, 0, 10000, 0, 1000, 1000, 900},
		{api.MRun, 0, 10000, 0, 65535, 1000, 900},
		{api.MRun, 0, 10000, 0, 0, 1000, 600},
		{api.MRun, 0, 0, 0, 1000, 1000, 300},
		{api.MRun, 0, 0, 0, 0, 1000, 200},
		// MIdle
		{api.MIdle, 0, 5000, 0, 500, 0, 550},
		{api.MIdle, 0, 5000, 0, 1000, 49, 650},
		{api.MIdle, 0, 5000, 0, 0, 0, 300},
		{api.MIdle, 0, 0, 0, 1000, 0, 300},
		// MLight and MRelight, whatever the lever
		{api.MLight, 0, 0, 0, 1000, 1000, 220},
		{api.MLight, 0, 5000, 0, 0, 0, 240},
		{api.MLight, 0, 5000, 0, 1000, 1000, 240},
		{api.MLight, 0, 10000, 0, 500, 0, 260},
		{api.MLight, 0, 10001, 0, 500, 0, 260},
		{api.MRelight, 0, 249, 0, 1000, 1000, 220},
		{api.MRelight, 0, 250, 0, 1000, 1000, 221},
		{api.MRelight, 0, 10000, 0, 0, 0, 260},
	}
}

// limited are such, near them, at them, and above, by hand.
func limited() []fueled {
	return []fueled{
		// near N1's greatest value, at it, and above
		{api.MRun, 8950, 10000, 0, 1000, 1000, 900},
		{api.MRun, 8951, 10000, 0, 1000, 1000, 884},
		{api.MRun, 8975, 10000, 0, 1000, 1000, 500},
		{api.MRun, 8999, 10000, 0, 1000, 1000, 116},
		{api.MRun, 9000, 10000, 0, 1000, 1000, 100},
		{api.MRun, 9001, 10000, 0, 1000, 1000, 100},
		{api.MRun, 65535, 10000, 0, 1000, 1000, 100},
		{api.MIdle, 8975, 5000, 0, 500, 0, 325},
		{api.MLight, 8990, 5000, 0, 0, 0, 128},
		{api.MRelight, 9000, 5000, 0, 0, 0, 100},
		// N2's
		{api.MRun, 0, 10950, 0, 1000, 1000, 900},
		{api.MRun, 0, 10951, 0, 1000, 1000, 884},
		{api.MRun, 0, 10975, 0, 1000, 1000, 500},
		{api.MRun, 0, 10999, 0, 1000, 1000, 116},
		{api.MRun, 0, 11000, 0, 1000, 1000, 100},
		{api.MRun, 0, 65535, 0, 1000, 1000, 100},
		{api.MIdle, 0, 10975, 0, 0, 0, 350},
		{api.MLight, 0, 10990, 0, 0, 0, 132},
		{api.MRelight, 0, 11000, 0, 0, 0, 100},
		// and the heat's
		{api.MRun, 0, 10000, 950, 1000, 1000, 900},
		{api.MRun, 0, 10000, 951, 1000, 1000, 884},
		{api.MRun, 0, 10000, 999, 1000, 1000, 116},
		{api.MRun, 0, 10000, 1000, 1000, 1000, 100},
		{api.MRun, 0, 10000, 65535, 1000, 1000, 100},
		{api.MIdle, 0, 5000, 975, 500, 0, 325},
		{api.MLight, 0, 5000, 990, 0, 0, 128},
		{api.MRelight, 0, 5000, 999, 0, 0, 102},
		// the least of all
		{api.MRun, 8975, 10951, 999, 1000, 1000, 116},
		{api.MRun, 8999, 10951, 975, 1000, 1000, 116},
		{api.MRun, 8951, 10999, 975, 1000, 1000, 116},
	}
}

// P22.2: by hand, with a valve that goes as far as it should at once: the fuel of a mode that burns is what the lever asks for, and what the speed allows; that of another one what a start needs; and all is taken back near the greatest speeds and heat.
func TestFuel(t *testing.T) {
	for _, x := range slices.Concat(free(), limited()) {
		for _, lost := range bools { // if the own signals are, the other one's are taken
			c := api.Channel{Phase: api.Phase{Mode: x.mode}, Command: 77}
			s := api.Sight{Own: five{x.n1, x.n2, x.heat, x.pla, 0}, Panel: on(x.lever), Lit: mode.Burns(x.mode)}
			if lost {
				s.Other, s.Heard, s.Own = api.Packet{Values: s.Own, Good: each}, true, five{9000, 4, 5, 6, 7}
				for i := range c.Watch {
					c.Watch[i].Lost = true
				}
			}
			next, o, _ := Step(quick(example()), 0, c, s)
			if next.Command != x.want || next.Phase.Mode != x.mode || !o.Fuel {
				t.Errorf("%+v, lost %v: %+v", x, lost, next)
			}
		}
	}
}

// P22.2: fuel that is less than Lean is not taken back, nor made more.
func TestFuelBelowLean(t *testing.T) {
	p := quick(example())
	p.Laws.Accel, p.Laws.Decel = line(10000, 50, 150), line(10000, 0, 0)
	for _, x := range []struct{ n1, n2, want int }{
		{0, 0, 50}, {9000, 0, 50}, {65535, 2000, 70}, {0, 5000, 100}, {9000, 5000, 100}, {0, 6000, 110}, {8975, 6000, 105}, {9000, 6000, 100},
	} {
		c := api.Channel{Phase: api.Phase{Mode: api.MRun}}
		if next, _, _ := Step(p, 0, c, api.Sight{Own: five{x.n1, x.n2, 0, 1000, 0}, Panel: on(1000), Lit: true}); next.Command != x.want {
			t.Errorf("%+v: %+v", x, next)
		}
	}
}

// P22.2: it is the mode behind the frame that tells the fuel.
func TestFuelOfTheModeBehind(t *testing.T) {
	for _, x := range []struct {
		mode, lever int
		lit         bool
		to, want    int
	}{
		{api.MIdle, 1000, true, api.MRun, 650},
		{api.MRun, 0, true, api.MIdle, 650},
		{api.MLight, 1000, true, api.MIdle, 650},
		{api.MRelight, 0, true, api.MIdle, 650},
		{api.MRun, 1000, false, api.MRelight, 240},
		{api.MIdle, 0, false, api.MRelight, 240},
		{api.MStart, 0, false, api.MLight, 240},
	} {
		c := api.Channel{Phase: api.Phase{Mode: x.mode}}
		next, _, _ := Step(quick(example()), 0, c, api.Sight{Own: five{0, 5000, 0, 1000, 0}, Panel: on(x.lever), Lit: x.lit})
		if next.Phase.Mode != x.to || next.Command != x.want {
			t.Errorf("%+v: %+v", x, next)
		}
	}
}

// P22.2: by hand: a Command goes to 650 by the engine's Slew, from what it was, whatever that is; without fuel it is 0.
func TestCommand(t *testing.T) {
	for _, x := range []struct{ was, want int }{
		{650, 650}, {649, 650}, {651, 650}, {600, 650}, {700, 650}, {599, 649}, {701, 651}, {0, 50}, {550, 600}, {900, 850}, {1, 51},
		{-1, 49}, {-50, 0}, {-51, -1}, {-1000, -950}, {most, most - 50}, {most + 1, most - 49}, {most + 50, most}, {most + 51, most + 1},
		{mostOf, mostOf - 50}, {mostOf + 1, mostOf - 50}, {1<<32 + 650, mostOf - 50}, {math.MaxInt, mostOf - 50},
		{leastOf, leastOf + 50}, {leastOf - 1, leastOf + 50}, {-1<<32 + 650, leastOf + 50}, {math.MinInt, leastOf + 50},
	} {
		c := api.Channel{Phase: api.Phase{Mode: api.MRun}, Command: x.was}
		s := api.Sight{Own: five{0, 5000, 0, 1000, 0}, Panel: on(1000), Lit: true}
		next, o, _ := Step(example(), 0, c, s)
		if next.Command != x.want || !o.Fuel {
			t.Errorf("%+v: %+v", x, next)
		}
		s.Panel.Master = false
		if next, o, _ = Step(example(), 0, c, s); next.Command != 0 || o != (api.Orders{}) {
			t.Errorf("%+v, without fuel: %+v", x, next)
		}
	}
	for slew, want := range map[int]int{1: 501, 149: 649, 150: 650, 151: 650, most: 650} {
		p := example()
		p.Engine.Slew = slew
		c := api.Channel{Phase: api.Phase{Mode: api.MRun}, Command: 500}
		if next, _, _ := Step(p, 0, c, api.Sight{Own: five{0, 5000, 0, 1000, 0}, Panel: on(1000), Lit: true}); next.Command != want {
			t.Errorf("Slew %d: %+v", slew, next)
		}
	}
}

// P22.2: in a mode without fuel a Command is 0, whatever it was, and whatever is seen.
func TestCommandWithoutFuel(t *testing.T) {
	for _, x := range slices.Concat(atRest(), withFuel()) {
		for _, was := range append(endsOfInt(), 50, 500, most) {
			c := api.Channel{Phase: api.Phase{Mode: x.mode, Since: x.since}, Command: was}
			s := api.Sight{Own: five{0, x.n2, x.heat, 1000, 0}, Panel: x.panel, Lit: x.lit}
			next, o, _ := Step(example(), 0, c, s)
			if !o.Fuel && next.Command != 0 || o.Fuel && was == 0 && next.Command != 50 || o.Fuel != ordered(x.orders).Fuel {
				t.Errorf("%+v, from %d: %+v", x, was, next)
			}
		}
	}
}

// P22.2: the score, by hand: of those that are lost, while one is good.
func TestScore(t *testing.T) {
	weights := five{60, 100, 60, 40, 40}
	for set := range 1 << api.Signals {
		var c api.Channel
		want := 255
		c.Health = api.Health{Quiet: 4, Score: 7}
		for i := range api.Signals {
			if set>>i&1 == 1 {
				c.Watch[i].Lost = true
				want -= weights[i]
			}
		}
		quiet := 0
		if set == 1<<api.Signals-1 {
			quiet = 5
			want -= 100
		}
		next, _, k := Step(example(), 0, c, api.Sight{Heard: true, Other: api.Packet{Values: running(), Good: each}})
		if next.Health != (api.Health{Quiet: quiet, Score: max(want, 0)}) || k.Score != max(want, 0) {
			t.Errorf("%05b: %+v, and tells %d", set, next.Health, k.Score)
		}
	}
}

// P22.2: it is what is lost behind the frame that counts, not what was, nor what is wrong alone.
func TestScoreOfTheFrameBehind(t *testing.T) {
	var c api.Channel
	for i, x := range []struct{ own, score int }{
		{-1, 255}, {-1, 255}, {-1, 155}, {7, 155}, {7, 155}, {7, 255}, {-1, 255}, {7, 255},
	} {
		if c, _, _ = Step(example(), 0, c, api.Sight{Own: five{0, x.own}}); c.Health != (api.Health{Score: x.score}) {
			t.Errorf("%d: %+v", i, c.Health)
		}
	}
}

// P22.2: it is heard, if any own signal is good; else it is quiet for one frame more.
func TestQuiet(t *testing.T) {
	for _, x := range []struct{ was, then int }{
		{0, 1}, {1, 2}, {5, 6}, {999, 1000}, {1000, 1000}, {1001, 1000}, {-1, 1}, {math.MinInt, 1}, {math.MaxInt, 1000}, {1 << 32, 1000},
	} {
		for set := range 1 << api.Signals {
			c := api.Channel{Health: api.Health{Quiet: x.was, Score: 200}}
			var own five
			want := 0
			if set == 0 {
				want = x.then
			}
			for i := range own {
				if set>>i&1 == 0 {
					own[i] = -1
				}
			}
			next, _, _ := Step(example(), 0, c, api.Sight{Own: own, Heard: true, Other: api.Packet{Values: running(), Good: each}})
			if next.Health.Quiet != want || next.Health.Score != max(255-20*want, 0) && want <= api.MaxQuiet || want > api.MaxQuiet && next.Health.Score != 0 {
				t.Errorf("%d, %05b: %+v", x.was, set, next.Health)
			}
		}
	}
	var c api.Channel
	gone := api.Sight{Own: five{-1, -1, -1, -1, -1}}
	for i, want := range []api.Health{{Quiet: 1, Score: 235}, {Quiet: 2, Score: 215}, {Quiet: 3}, {Quiet: 4}, {Quiet: 5}, {Quiet: 6}} {
		if c, _, _ = Step(example(), 0, c, gone); c.Health != want {
			t.Errorf("%d: %+v", i, c.Health)
		}
	}
	for i, want := range []api.Health{{Quiet: 7}, {Quiet: 8}, {Score: 255}} {
		if c, _, _ = Step(example(), 0, c, api.Sight{}); c.Health != want {
			t.Errorf("%d, back: %+v", i, c.Health)
		}
	}
}

// P22.2: a Frame is one more; 0 behind the last one, and behind one that is none.
func TestFrame(t *testing.T) {
	for _, x := range []struct{ was, want int }{
		{0, 1}, {1, 2}, {255, 256}, {mostOf, mostOf + 1}, {mostOf + 1, mostOf + 2}, {frames - 3, frames - 2}, {frames - 2, frames - 1},
		{frames - 1, 0}, {frames, 0}, {frames + 1, 0}, {2*frames - 1, 0}, {math.MaxInt - 1, 0}, {math.MaxInt, 0},
		{-1, 0}, {-2, 0}, {-frames, 0}, {1 - frames, 0}, {math.MinInt, 0}, {math.MinInt + 1, 0},
	} {
		for _, name := range names(plans()) {
			c, _, k := Step(plans()[name], 0, api.Channel{Frame: x.was}, api.Sight{Other: api.Packet{Frame: 5000}, Heard: true})
			if c.Frame != x.want || k.Frame != x.want {
				t.Errorf("%s, %d: %d, and tells %d", name, x.was, c.Frame, k.Frame)
			}
		}
	}
}

// P22.2: what is told: each of the own values, the nearest one that is fixed, good or not; and nothing of the other's, nor of what is taken.
func TestToldValues(t *testing.T) {
	for _, x := range []struct{ own, want int }{
		{0, 0}, {1, 1}, {-1, -1}, {65535, 65535}, {65536, 65536}, {most, most},
		{mostOf - 1, mostOf - 1}, {mostOf, mostOf}, {mostOf + 1, mostOf}, {1 << 32, mostOf}, {1<<32 + 7, mostOf}, {math.MaxInt, mostOf},
		{leastOf + 1, leastOf + 1}, {leastOf, leastOf}, {leastOf - 1, leastOf}, {-1 << 32, leastOf}, {-1<<32 + 7, leastOf}, {math.MinInt, leastOf},
	} {
		for signal := range api.Signals {
			own, want := five{10, 20, 30, 40, 50}, five{10, 20, 30, 40, 50}
			own[signal], want[signal] = x.own, x.want
			good, wide := each, each
			good[signal] = x.own >= 0 && x.own <= 65535
			wide[signal] = x.own >= leastOf && x.own <= mostOf
			s := api.Sight{Own: own, Heard: true, Other: api.Packet{From: 1, Frame: 900, Values: running(), Good: each, Mode: 7, Score: 9}}
			_, _, k := Step(example(), 0, api.Channel{Frame: 77, Taken: running()}, s)
			if k != (api.Packet{Frame: 78, Values: want, Good: good, Score: k.Score}) {
				t.Errorf("the signal %d, %+v: %+v", signal, x, k)
			}
			if _, _, k = Step(loose(example()), 0, api.Channel{}, s); k.Values != want || k.Good != wide {
				t.Errorf("the signal %d, %+v, loose: %+v", signal, x, k)
			}
		}
	}
}
