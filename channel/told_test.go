package channel

import (
	"math"
	"math/big"
	"slices"
	"sort"
	"testing"

	"turbojet/api"
	"turbojet/check"
	"turbojet/link"
	"turbojet/mode"
	"turbojet/plant"
)

// dice tell numbers that a short rule scatters.
type dice uint64

func (d *dice) upTo(n int) int {
	*d = *d*6364136223846793005 + 1442695040888963407
	return int(*d>>33) % n
}

func (d *dice) one(l []int) int { return l[d.upTo(len(l))] }

func (d *dice) is() bool { return d.upTo(2) == 1 }

// around are numbers, each with the one below and above it.
func around(l ...int) []int {
	var out []int
	for _, n := range l {
		out = append(out, n-1, n, n+1)
	}
	return out
}

// endsOfInt are numbers that may be handed in, by hand, wherever a number is.
func endsOfInt() []int {
	return []int{math.MinInt, math.MinInt + 1, -1 << 33, -1<<32 - 1, -1 << 32, leastOf - 1, leastOf, -1, 0, 1, mostOf, mostOf + 1, 1<<32 - 1, 1 << 32, 1<<32 + 1, math.MaxInt - 1, math.MaxInt}
}

// saturated is a number, or the nearest one that is fixed, in words of its own.
func saturated(n int) int {
	if n > mostOf {
		return mostOf
	}
	return max(n, leastOf)
}

// valueAt is a table's value at a place, in words of its own.
func valueAt(t api.Table, x int) int {
	i := slices.IndexFunc(t.X, func(place int) bool { return place > x })
	if i == 0 {
		return t.Y[0]
	}
	if i < 0 {
		return t.Y[len(t.Y)-1]
	}
	rise := big.NewInt(int64((x - t.X[i-1]) * (t.Y[i] - t.Y[i-1])))
	return t.Y[i-1] + int(rise.Div(rise, big.NewInt(int64(t.X[i]-t.X[i-1]))).Int64())
}

// placeOf is the least place with at least so much, or the last one, in words of its own.
func placeOf(t api.Table, y int) int {
	first, last := t.X[0], t.X[len(t.X)-1]
	return first + sort.Search(last-first, func(i int) bool { return valueAt(t, first+i) >= y })
}

// modelOf is a model's, in words of its own.
func modelOf(e api.Engine, v five) five {
	return five{valueAt(e.N1, v[api.SN2]), placeOf(e.N1, v[api.SN1]), valueAt(e.Heat, v[api.SValve]), v[api.SPLA], placeOf(e.N2, v[api.SN2])}
}

func between(a, b int) int { return max(a, b) - min(a, b) }

// picked is which of two values is taken, in words of its own.
func picked(a, b int, goodA, goodB bool, model, near int) (int, int) {
	a, b, model = saturated(a), saturated(b), saturated(model)
	switch {
	case !goodA && !goodB:
		return model, api.TModel
	case !goodB:
		return a, api.TOne
	case !goodA:
		return b, api.TTwo
	case between(a, b) <= near:
		return int(math.Floor(float64(a+b) / 2)), api.TBoth
	case between(b, model) < between(a, model):
		return b, api.TTwo
	}
	return a, api.TOne
}

// trimmed is what is left of a fuel, in words of its own.
func trimmed(value, red, margin, fuel, lean int) int {
	if fuel <= lean || value <= red-margin {
		return fuel
	}
	return lean + (fuel-lean)*max(red-value, 0)/margin
}

// fuelOf is the fuel of a mode, in words of its own.
func fuelOf(p api.Plan, burns bool, v five) int {
	e, l, n2 := p.Engine, p.Laws, v[api.SN2]
	fuel := max(valueAt(l.Start, n2), e.Lean)
	if burns {
		low := valueAt(l.Decel, n2)
		fuel = max(min(valueAt(e.Fuel, min(max(v[api.SPLA], 0), 1000)), valueAt(l.Accel, n2)), low)
	}
	return min(
		trimmed(v[api.SN1], l.Red1, l.Margin, fuel, e.Lean),
		trimmed(n2, l.Red2, l.Margin, fuel, e.Lean),
		trimmed(v[api.SEGT], l.RedE, l.Margin, fuel, e.Lean),
	)
}

// slewed is where a command goes, in words of its own.
func slewed(from, to, by int) int {
	if from = saturated(from); from < to {
		return min(from+by, to)
	}
	return max(from-by, to)
}

// scoreOf is a score, in words of its own.
func scoreOf(lost flags, quiet int) int {
	score := 255
	for i, weight := range []int{60, 100, 60, 40, 40} {
		if lost[i] {
			score -= weight
		}
	}
	if quiet > 5 {
		return 0
	}
	return max(score-20*quiet, 0)
}

// told is P22.2 in words of its own.
func told(p api.Plan, me int, c api.Channel, s api.Sight) (api.Channel, api.Orders, api.Packet) {
	k := api.Packet{From: me}
	var lost flags
	quiet := min(max(c.Health.Quiet, 0), 999) + 1
	model := modelOf(p.Engine, c.Taken)
	for i := range api.Signals {
		c.Watch[i], k.Good[i] = check.Step(p.Limits[i], c.Watch[i], s.Own[i])
		k.Values[i], lost[i] = saturated(s.Own[i]), c.Watch[i].Lost
		if k.Good[i] {
			quiet = 0
		}
		c.Taken[i], c.From[i] = picked(s.Own[i], s.Other.Values[i], k.Good[i], s.Heard && s.Other.Good[i], model[i], p.Near[i])
	}
	n2 := c.Taken[api.SN2]
	c.Phase = mode.Next(p.Engine, p.Laws, c.Phase, s.Panel, s.Lit, n2, c.Taken[api.SEGT])
	k.Mode = c.Phase.Mode
	o := mode.Orders(p.Engine, k.Mode, n2)
	c.Command = slewed(c.Command, fuelOf(p, k.Mode == api.MIdle || k.Mode == api.MRun, c.Taken), p.Engine.Slew)
	if !o.Fuel {
		c.Command = 0
	}
	c.Health = api.Health{Quiet: quiet, Score: scoreOf(lost, quiet)}
	if c.Frame++; c.Frame < 1 || c.Frame >= frames {
		c.Frame = 0
	}
	k.Frame, k.Score = c.Frame, c.Health.Score
	return c, o, k
}

// edgesOf are numbers near those that a plan, and the language, has.
func edgesOf(p api.Plan) []int {
	e, l := p.Engine, p.Laws
	out := around(0, 50, 1000, most, mostCount, l.Red1-l.Margin, l.Red1, l.Red2-l.Margin, l.Red2, l.RedE-l.Margin, l.RedE, l.Idle, l.Patience, e.Light, e.Starter, e.Slew, e.Lean)
	for _, limit := range p.Limits {
		out = append(out, around(limit.Low, limit.High, limit.Rate, limit.Bad, limit.Fine, limit.Stuck)...)
	}
	return slices.Concat(out, endsOfInt(), []int{frames - 2, frames - 1, frames, 1 << 30, 1<<30 - 1})
}

// five tells five numbers: half of them those of an engine that runs, or near.
func (d *dice) five(of []int) five {
	out := five{d.upTo(9100), d.upTo(11100), d.upTo(1050), d.upTo(1001), d.upTo(1001)}
	for i := range out {
		if d.is() {
			out[i] = d.one(of)
		}
	}
	return out
}

func (d *dice) flags() flags {
	var out flags
	for i := range out {
		out[i] = d.is()
	}
	return out
}

// channel tells one, whose fields may be any; sight what it sees.
func (d *dice) channel(of []int) api.Channel {
	c := api.Channel{Command: d.one(of), Taken: d.five(of), From: d.five(of), Frame: d.one(of)}
	c.Phase = api.Phase{Mode: d.upTo(11) - 1, Since: d.one(of)}
	c.Health = api.Health{Quiet: d.one(of), Score: d.one(of)}
	for i := range c.Watch {
		c.Watch[i] = api.Watch{Last: d.upTo(2000), Same: d.one(of), Wrong: d.upTo(4), Right: d.upTo(4), Lost: d.upTo(3) == 0, Begun: d.is()}
		if d.upTo(4) == 0 {
			c.Watch[i].Last, c.Watch[i].Wrong, c.Watch[i].Right = d.one(of), d.one(of), d.one(of)
		}
	}
	if d.is() {
		c.Command, c.Phase.Since = d.upTo(1000), d.upTo(100)
	}
	return c
}

func (d *dice) sight(of []int) api.Sight {
	s := api.Sight{Own: d.five(of), Heard: d.upTo(4) > 0, Lit: d.upTo(3) > 0}
	s.Panel = api.Panel{Master: d.upTo(4) > 0, Start: d.is(), Crank: d.is(), Revert: d.is(), Lever: d.upTo(100)}
	s.Other = api.Packet{From: d.one(of), Frame: d.one(of), Values: d.five(of), Good: d.flags(), Mode: d.one(of), Score: d.one(of)}
	for i, v := range s.Own { // the other one sees much the same
		if d.is() {
			s.Other.Values[i] = saturated(v) + d.upTo(300) - 150
		}
	}
	if d.upTo(4) == 0 {
		s.Panel.Lever = d.one(of)
	}
	if d.upTo(20) == 0 { // none is good
		s.Own = five{math.MinInt, math.MaxInt, math.MinInt, math.MaxInt, math.MinInt}
	}
	return s
}

// counts are how often what matters was so, that a test is not content with too little.
type counts struct {
	from              [4]int
	mode              [api.Modes]int
	fuel, lost, quiet int
	slewing, trimmed  int
}

func (n *counts) add(p api.Plan, was, c api.Channel, o api.Orders) {
	for _, from := range c.From {
		n.from[from]++
	}
	n.mode[c.Phase.Mode]++
	for _, lost := range Lost(c) {
		if lost {
			n.lost++
		}
	}
	if c.Health.Quiet > 0 {
		n.quiet++
	}
	if !o.Fuel {
		return
	}
	n.fuel++
	if between(saturated(was.Command), c.Command) == p.Engine.Slew {
		n.slewing++
	}
	free := c.Taken
	free[api.SN1], free[api.SEGT] = leastOf, leastOf
	if burns := mode.Burns(c.Phase.Mode); fuelOf(p, burns, free) != fuelOf(p, burns, c.Taken) {
		n.trimmed++
	}
}

// enough tells whether each of them is at least so much.
func (n *counts) enough(least int) bool {
	return slices.Min(slices.Concat(n.from[:], n.mode[:], []int{n.fuel, n.lost, n.quiet, n.slewing, n.trimmed})) >= least
}

// P22.2: channels and sights whose fields may be any, and frames behind them: as told.
func TestStepAsTold(t *testing.T) {
	for i, name := range names(plans()) {
		p, d := plans()[name], dice(i)
		of := edgesOf(p)
		var n counts
		for range 3000 {
			c := d.channel(of)
			for range 3 {
				s, me := d.sight(of), d.upTo(2)
				wantC, wantO, wantK := told(p, me, c, s)
				next, o, k := Step(p, me, c, s)
				if next != wantC || o != wantO || k != wantK {
					t.Fatalf("%s, %+v, %+v:\n%+v, %+v, %+v, not\n%+v, %+v, %+v", name, c, s, next, o, k, wantC, wantO, wantK)
				}
				n.add(p, c, next, o)
				c = next
			}
		}
		if name != "greatest" && name != "least" && !n.enough(40) {
			t.Errorf("%s: %+v: too seldom to tell", name, n)
		}
	}
}

// P22.4: without the master the Command is 0, and no fuel is ordered, whatever else is seen, and however the channel was.
func TestWithoutMaster(t *testing.T) {
	for i, name := range names(plans()) {
		p, d := plans()[name], dice(i+100)
		of := edgesOf(p)
		for range 3000 {
			c, s := d.channel(of), d.sight(of)
			s.Panel.Master = false
			next, o, _ := Step(p, d.upTo(2), c, s)
			if next.Command != 0 || o.Fuel || o.Open || o.Ignition {
				t.Fatalf("%s, %+v, %+v: %+v, %+v", name, c, s, next, o)
			}
		}
	}
}

// P22.4: what it tells may be told, and is read as it was told, also of a channel whose fields are none.
func TestMayBeTold(t *testing.T) {
	for i, name := range names(plans()) {
		p, d := plans()[name], dice(i+200)
		of := edgesOf(p)
		for n := range 2000 {
			c, s, me := d.channel(of), d.sight(of), n%2
			if n%3 == 0 {
				c.Frame, c.Phase.Mode, c.Health.Score = d.one(endsOfInt()), d.one(endsOfInt()), d.one(endsOfInt())
			}
			_, _, k := Step(p, me, c, s)
			if got := link.Check(k); got != api.OK || k.From != me {
				t.Fatalf("%s, %+v, %+v: %+v: %d", name, c, s, k, got)
			}
			if n%20 != 0 {
				continue
			}
			b, _ := link.Encode(k)
			if back, err := link.Decode(b); err != api.OK || back != k {
				t.Fatalf("%s: %+v became %+v", name, k, back)
			}
		}
	}
}

// pair are two channels, the engine that the first one drives, and what both told last.
type pair struct {
	channels [2]api.Channel
	orders   [2]api.Orders
	packets  [2]api.Packet
	heard    bool
	plant    api.Plant
}

// sights are what both see: the engine, with what harms it, and what the other one told in the frame before, as it is read of its bytes.
func (g *pair) sights(s api.Panel, harm func(me int, own *five)) [2]api.Sight {
	var out [2]api.Sight
	for me := range out {
		v := five{g.plant.N1, g.plant.N2, g.plant.Heat, s.Lever, g.plant.Valve}
		harm(me, &v)
		out[me] = api.Sight{Own: v, Heard: g.heard, Panel: s, Lit: g.plant.Lit}
		b, _ := link.Encode(g.packets[1-me])
		if k, err := link.Decode(b); g.heard && err == api.OK {
			out[me].Other = k
		}
	}
	return out
}

// frame is one more; each channel in it must be as told.
func (g *pair) frame(t *testing.T, p api.Plan, s api.Panel, blow bool, harm func(me int, own *five)) {
	t.Helper()
	for me, seen := range g.sights(s, harm) {
		was := g.channels[me]
		wantC, wantO, wantK := told(p, me, was, seen)
		g.channels[me], g.orders[me], g.packets[me] = Step(p, me, was, seen)
		if g.channels[me] != wantC || g.orders[me] != wantO || g.packets[me] != wantK {
			t.Fatalf("%d, %+v, %+v: %+v, not %+v", me, was, seen, g.channels[me], wantC)
		}
		if !mode.Allowed(was.Phase.Mode, wantC.Phase.Mode) || link.Check(wantK) != api.OK {
			t.Fatalf("%d, %+v, %+v: %+v", me, was, seen, wantC)
		}
	}
	g.heard = true
	o := g.orders[0]
	g.plant = plant.Step(p.Engine, g.plant, api.Drive{Fuel: g.channels[0].Command, Open: o.Open, Ignition: o.Ignition, Starter: o.Starter, Blow: blow})
}

func unharmed(me int, own *five) {}

// near tells whether two numbers are at most so much apart.
func near(a, b, by int) bool { return between(a, b) <= by }

// P22.2: two channels that see the same, and hear each other, are alike, frame by frame: from rest to what the lever asks for, blown out, and shut.
func TestTwoAlike(t *testing.T) {
	p := example()
	var g pair
	for i := range 2600 {
		s := on(500)
		switch {
		case i >= 2000:
			s = panel("", 500)
		case i >= 1500:
			s.Lever = 0
		case i >= 1000:
			s.Lever = 1000
		}
		g.frame(t, p, s, i == 700, unharmed)
		told := g.packets[1]
		if told.From--; g.channels[0] != g.channels[1] || g.orders[0] != g.orders[1] || g.packets[0] != told {
			t.Fatalf("%d: %+v, and %+v", i, g.channels[0], g.channels[1])
		}
		c := g.channels[0]
		if i == 0 && c.From != (five{1, 1, 1, 1, 1}) || c.Frame != i+1 || c.Health != (api.Health{Score: 255}) {
			t.Fatalf("%d: %+v", i, c)
		}
		steady := c.Phase.Mode == api.MRun && c.From == five{3, 3, 3, 3, 3} && g.plant.Lit
		switch {
		case i == 0 && c.Phase.Mode != api.MStart, i == 701 && c.Phase.Mode != api.MRelight:
			t.Errorf("%d: %+v, %+v", i, c, g.plant)
		case (i == 699 || i == 999) && (!steady || c.Command != 550 || !near(g.plant.N2, 5500, 7)):
			t.Errorf("%d: %+v, %+v", i, c, g.plant)
		case i == 1499 && (!steady || c.Command != 900 || !near(g.plant.N2, 8993, 14)):
			t.Errorf("%d: %+v, %+v", i, c, g.plant)
		case i == 1999 && (c.Phase.Mode != api.MIdle || !g.plant.Lit):
			t.Errorf("%d: %+v, %+v", i, c, g.plant)
		case i == 2599 && (c.Phase.Mode != api.MOff || g.plant.Lit || c.Command != 0):
			t.Errorf("%d: %+v, %+v", i, c, g.plant)
		}
	}
}

// P22.2: of two channels one loses a signal for a while, and takes the other one's; the engine is as it was.
func TestTwoOneHarmed(t *testing.T) {
	p := example()
	p.Limits[api.SN2].High = 20000
	var g pair
	harmed := false
	harm := func(me int, own *five) {
		if harmed && me == 1 {
			own[api.SN2] = 65535
		}
	}
	for i := range 900 {
		harmed = i >= 700 && i < 720
		g.frame(t, p, on(500), false, harm)
		a, b := g.channels[0], g.channels[1]
		if i >= 600 && (!near(g.plant.N2, 5500, 7) || a.Phase.Mode != api.MRun || b.Phase.Mode != api.MRun || a.Command != 550 || b.Command != 550) {
			t.Fatalf("%d: %+v, %+v, %+v", i, a, b, g.plant)
		}
		lost := i >= 702 && i < 722
		score := 255
		if lost {
			score = 155
		}
		if Lost(b) != (flags{api.SN2: lost}) || Lost(a) != (flags{}) || b.Health != (api.Health{Score: score}) {
			t.Errorf("%d: %v, %v, %+v", i, Lost(a), Lost(b), b.Health)
		}
		wantA, wantB := api.TBoth, api.TBoth
		if i >= 700 && i < 722 {
			wantB = api.TTwo
		}
		if i > 700 && i <= 722 {
			wantA = api.TOne
		}
		if i >= 600 && (a.From[api.SN2] != wantA || b.From[api.SN2] != wantB) {
			t.Errorf("%d: from %v, and %v", i, a.From, b.From)
		}
	}
}

// trouble is what goes wrong for some frames: a signal of a channel that is harmed, all of both, or a flame that is blown out.
type trouble struct{ kind, me, signal, value, left int }

// Kinds of trouble.
const (
	harmedOne = iota
	harmedAll
	blown
	troubles
)

func (w trouble) harm(me int, own *five) {
	if w.left > 0 && w.kind == harmedOne && w.me == me {
		own[w.signal] = w.value
	}
	if w.left > 0 && w.kind == harmedAll {
		*own = five{w.value, w.value, w.value, w.value, w.value}
	}
}

// P22.2, P22.4: frame by frame, many frames, with a pilot, and troubles, that dice tell: both channels are as told, and no fuel is ordered without the master.
func TestTwoThroughMuch(t *testing.T) {
	for i, p := range []api.Plan{example(), bent()} {
		var g pair
		var n counts
		var w trouble
		d, s := dice(i+7), on(600)
		of := edgesOf(p)
		for range 12000 {
			if d.upTo(90) == 0 {
				s = api.Panel{Master: d.upTo(6) > 0, Start: d.upTo(5) > 0, Crank: d.is(), Revert: d.is(), Lever: d.one([]int{0, 49, 50, 300, 600, 1000})}
			}
			if w.left--; w.left < -d.upTo(200) {
				w = trouble{kind: d.upTo(troubles), me: d.upTo(2), signal: d.upTo(api.Signals), value: d.one(of), left: d.upTo(30)}
				if w.kind == blown {
					w.left = d.upTo(300)
				}
			}
			was := g.channels[0]
			g.frame(t, p, s, w.kind == blown && w.left > 0, w.harm)
			if !s.Master && (g.channels[0].Command != 0 || g.orders[0].Fuel || g.channels[1].Command != 0 || g.orders[1].Fuel) {
				t.Fatalf("without the master: %+v", g)
			}
			n.add(p, was, g.channels[0], g.orders[0])
		}
		if !n.enough(10) {
			t.Errorf("%d: %+v: too seldom to tell", i, n)
		}
	}
}

// tablesOf are a plan's.
func tablesOf(p *api.Plan) []*api.Table {
	e, l := &p.Engine, &p.Laws
	return []*api.Table{&e.Fuel, &e.N2, &e.N1, &e.Heat, &l.Accel, &l.Decel, &l.Start}
}

// roomy is a plan whose lists have spare room behind them, that is filled; and all of each.
func roomy(p api.Plan, filler int) (api.Plan, [][]int) {
	var whole [][]int
	room := func(l []int) []int {
		all := append(append(make([]int, 0, len(l)+3), l...), filler, filler, filler)
		whole = append(whole, all)
		return all[:len(l)]
	}
	for _, t := range tablesOf(&p) {
		t.X, t.Y = room(t.X), room(t.Y)
	}
	return p, whole
}

// answer is what all calls answer.
type answer struct {
	err    api.Errno
	next   api.Channel
	orders api.Orders
	told   api.Packet
	lost   flags
}

func answers(p api.Plan, me int, c api.Channel, s api.Sight) answer {
	a := answer{err: Check(p), lost: Lost(c)}
	a.next, a.orders, a.told = Step(p, me, c, s)
	return a
}

// R4, R5: a plan that is handed in is as it was, spare room included, whatever stands there; and the same call again, behind others, answers the same.
func TestHandedIn(t *testing.T) {
	all := bad()
	for _, name := range names(plans()) {
		all = append(all, plans()[name])
	}
	for i, plain := range all {
		d, of := dice(i), edgesOf(example())
		for range 5 {
			c, s, me := d.channel(of), d.sight(of), d.upTo(2)
			want := answers(plain, me, c, s)
			for _, filler := range []int{math.MinInt, 0, 7, most, math.MaxInt} {
				p, whole := roomy(plain, filler)
				var was [][]int
				for _, l := range whole {
					was = append(was, slices.Clone(l))
				}
				first := answers(p, me, c, s)
				answers(bent(), 1-me, d.channel(of), d.sight(of))
				if again := answers(p, me, c, s); first != want || again != want {
					t.Fatalf("%d, %+v, %+v: %+v, then %+v, not %+v", i, c, s, first, again, want)
				}
				if !slices.EqualFunc(whole, was, slices.Equal[[]int]) {
					t.Fatalf("%d: %v became %v", i, was, whole)
				}
			}
		}
	}
}
