package channel

import (
	"math"
	"slices"
	"sort"
	"testing"

	"turbojet/api"
	"turbojet/check"
	"turbojet/cutoff"
	"turbojet/plant"
	"turbojet/schedule"
	"turbojet/synth"
)

// The chapter's numbers, and the fixed ones.
const (
	most      = 1 << 20
	mostCount = 65535
	mostNeed  = 1000
	frames    = 1 << 32
	leastOf   = -1 << 31
	mostOf    = 1<<31 - 1
)

// five are a number, or a flag, for each signal.
type (
	five  = [api.Signals]int
	flags = [api.Signals]bool
)

// bools are both; each is all of the signals.
var (
	bools = [2]bool{false, true}
	each  = flags{true, true, true, true, true}
)

func of(x, y []int) api.Table { return api.Table{X: x, Y: y} }

func line(x, a, b int) api.Table { return of([]int{0, x}, []int{a, b}) }

// example is the chapter's plan.
func example() api.Plan {
	p := api.Plan{Trip: 11500, Need: 2, Burst: 15000}
	p.Engine = api.Engine{
		Fuel: line(1000, 200, 900), N2: line(1000, 0, 10000), N1: line(10000, 0, 8000), Heat: line(1000, 0, 900),
		Lag2: 8, Lag1: 8, LagE: 4, Slew: 50, Starter: 1500, Light: 1000, Lean: 100,
	}
	p.Laws = api.Laws{
		Accel: line(10000, 300, 1000), Decel: line(10000, 0, 600), Start: line(10000, 220, 260),
		Red1: 9000, Red2: 11000, RedE: 1000, Margin: 50, Idle: 1800, Patience: 200,
	}
	for i := range p.Limits {
		p.Limits[i], p.Near[i] = api.Limit{High: 65535, Rate: 65535, Bad: 3, Fine: 3}, 100
	}
	return p
}

// bent is a plan whose numbers all differ, so that none is taken for another one; no table begins at 0, and each is bent.
func bent() api.Plan {
	p := api.Plan{Trip: 10300, Need: 3, Burst: 17000}
	p.Engine = api.Engine{
		Fuel: of([]int{10, 300, 900}, []int{150, 400, 1100}),
		N2:   of([]int{120, 400, 410, 1000}, []int{2100, 7000, 7000, 9100}),
		N1:   of([]int{500, 3000, 8000, 9000}, []int{310, 1700, 5200, 6401}),
		Heat: of([]int{90, 600, 1200}, []int{205, 480, 1333}),
		Lag2: 5, Lag1: 9, LagE: 3, Slew: 37, Starter: 2000, Light: 700, Lean: 110, Disturb: 11,
	}
	p.Laws = api.Laws{
		Accel: of([]int{600, 4000, 9000}, []int{290, 700, 1010}),
		Decel: of([]int{700, 5000, 9500}, []int{90, 310, 590}),
		Start: of([]int{100, 900, 2500}, []int{105, 190, 260}),
		Red1:  6100, Red2: 9050, RedE: 990, Margin: 130, Idle: 1850, Patience: 40,
	}
	p.Limits = [api.Signals]api.Limit{
		{Low: -20, High: 7000, Rate: 3000, Stuck: 0, Bad: 2, Fine: 3},
		{Low: -30, High: 12000, Rate: 4000, Stuck: 9, Bad: 3, Fine: 2},
		{Low: -40, High: 1500, Rate: 600, Stuck: 8, Bad: 4, Fine: 1},
		{Low: 0, High: 1000, Rate: 900, Stuck: 0, Bad: 1, Fine: 4},
		{Low: -5, High: 1100, Rate: 800, Stuck: 7, Bad: 5, Fine: 5},
	}
	p.Near = five{40, 70, 0, 15, 25}
	return p
}

// quick is a plan whose valve goes as far as it should at once, so that a Command is the fuel.
func quick(p api.Plan) api.Plan {
	p.Engine.Slew = most
	return p
}

// loose is a plan with signals that may be any fixed numbers.
func loose(p api.Plan) api.Plan {
	for i := range p.Limits {
		p.Limits[i] = api.Limit{Low: leastOf, High: mostOf, Rate: mostOf, Bad: 1, Fine: 1}
	}
	return p
}

// greatest has the greatest numbers that there may be together; least the least ones.
func greatest() api.Plan {
	p := loose(example())
	for i := range p.Limits {
		p.Limits[i].Bad, p.Limits[i].Fine, p.Limits[i].Stuck, p.Near[i] = 1000, 1000, mostOf, most
	}
	p.Engine.Slew, p.Engine.Fuel = most, line(1000, most, most)
	p.Engine.Lean = most
	p.Laws.Accel, p.Laws.Decel, p.Laws.Start = line(most, most, most), line(most, most, most), line(most, most, most)
	p.Laws.Red1, p.Laws.Red2, p.Laws.RedE, p.Laws.Margin, p.Laws.Idle, p.Laws.Patience = most, most, most, most, most, 10000
	p.Trip, p.Need, p.Burst = mostCount, 786, most
	return p
}

func least() api.Plan {
	p := api.Plan{Trip: 1, Need: 1, Burst: 1}
	none := line(1, 0, 0)
	p.Engine = api.Engine{Fuel: line(1, 1, 1), N2: none, N1: none, Heat: none, Lag2: 1, Lag1: 1, LagE: 1, Slew: 1, Lean: 1}
	p.Laws = api.Laws{Accel: none, Decel: none, Start: none, Red1: 1, Red2: 1, RedE: 1, Margin: 1, Idle: 1, Patience: 1}
	for i := range p.Limits {
		p.Limits[i] = api.Limit{Bad: 1, Fine: 1}
	}
	return p
}

// plans may be.
func plans() map[string]api.Plan {
	return map[string]api.Plan{
		"example": example(), "bent": bent(), "quick": quick(example()), "loose": loose(bent()), "quick and loose": quick(loose(example())),
		"greatest": greatest(), "least": least(),
	}
}

// names of plans, in order.
func names[T any](m map[string]T) []string {
	var out []string
	for name := range m {
		out = append(out, name)
	}
	sort.Strings(out)
	return out
}

// P22.1, P22.2: the numbers of the limits.
func TestNumbers(t *testing.T) {
	if api.MaxNumber != most || api.MaxCount != mostCount || api.MaxNeed != mostNeed || lastFrame != frames-1 || api.ErrPlan != 220 {
		t.Errorf("%d, %d, %d, %d, %d", api.MaxNumber, api.MaxCount, api.MaxNeed, lastFrame, api.ErrPlan)
	}
}

// change is what is changed of a plan, and whether it may be then.
type change struct {
	name string
	to   func(p *api.Plan)
	may  bool
}

// parts are changes of the engine, the laws and the limits: each alone is why a plan may not be.
func parts() []change {
	out := []change{
		{"nothing", func(p *api.Plan) {}, true},
		{"no engine", func(p *api.Plan) { p.Engine = api.Engine{} }, false},
		{"no laws", func(p *api.Plan) { p.Laws = api.Laws{} }, false},
		{"no limits", func(p *api.Plan) { p.Limits = [api.Signals]api.Limit{} }, false},
		{"no N1", func(p *api.Plan) { p.Engine.N1 = api.Table{} }, false},
		{"Heat falls", func(p *api.Plan) { p.Engine.Heat = line(5, 1, 0) }, false},
		{"Lag1 is 0", func(p *api.Plan) { p.Engine.Lag1 = 0 }, false},
		{"Lag1 is 64", func(p *api.Plan) { p.Engine.Lag1 = 64 }, true},
		{"Lag1 is 65", func(p *api.Plan) { p.Engine.Lag1 = 65 }, false},
		{"Lag2 is 0", func(p *api.Plan) { p.Engine.Lag2 = 0 }, false},
		{"Slew is 0", func(p *api.Plan) { p.Engine.Slew = 0 }, false},
		{"Lean is 0", func(p *api.Plan) { p.Engine.Lean = 0 }, false},
		{"Light is above Starter", func(p *api.Plan) { p.Engine.Light = p.Engine.Starter + 1 }, false},
		{"Starter is below 0", func(p *api.Plan) { p.Engine.Starter, p.Engine.Light = -1, -1 }, false},
		{"Disturb is below 0", func(p *api.Plan) { p.Engine.Disturb = -1 }, false},
		{"no Accel", func(p *api.Plan) { p.Laws.Accel = api.Table{} }, false},
		{"Start falls", func(p *api.Plan) { p.Laws.Start = line(5, 1, 0) }, false},
		{"Margin is 0", func(p *api.Plan) { p.Laws.Margin = 0 }, false},
		{"Red1 is below Margin", func(p *api.Plan) { p.Laws.Red1 = p.Laws.Margin - 1 }, false},
		{"Red1 is Margin", func(p *api.Plan) { p.Laws.Red1 = p.Laws.Margin }, true},
		{"Idle is 0", func(p *api.Plan) { p.Laws.Idle = 0 }, false},
		{"Patience is too great", func(p *api.Plan) { p.Laws.Patience = 10001 }, false},
	}
	for i := range api.Signals {
		limit := func(name string, may bool, to func(l *api.Limit)) {
			out = append(out, change{name, func(p *api.Plan) { to(&p.Limits[i]) }, may})
		}
		limit("an empty limit", false, func(l *api.Limit) { *l = api.Limit{} })
		limit("Low is above High", false, func(l *api.Limit) { l.Low = l.High + 1 })
		limit("Low is High", true, func(l *api.Limit) { l.Low = l.High })
		limit("High is too great", false, func(l *api.Limit) { l.High = mostOf + 1 })
		limit("Rate is below 0", false, func(l *api.Limit) { l.Rate = -1 })
		limit("Stuck is too great", false, func(l *api.Limit) { l.Stuck = math.MaxInt })
		limit("Bad is 0", false, func(l *api.Limit) { l.Bad = 0 })
		limit("Bad is 1000", true, func(l *api.Limit) { l.Bad = 1000 })
		limit("Bad is 1001", false, func(l *api.Limit) { l.Bad = 1001 })
		limit("Fine is 0", false, func(l *api.Limit) { l.Fine = 0 })
		for near, may := range map[int]bool{math.MinInt: false, -1 << 32: false, -1: false, 0: true, 1: true, most - 1: true, most: true, most + 1: false, 1 << 32: false, math.MaxInt: false} {
			out = append(out, change{"a Near", func(p *api.Plan) { p.Near[i] = near }, may})
		}
	}
	return out
}

// P22.1: a plan may not be, if its engine, its laws, one of its limits, or one of Near may not be.
func TestCheckOfParts(t *testing.T) {
	for _, c := range parts() {
		for _, name := range names(plans()) {
			if name == "greatest" || name == "least" {
				continue // what is no reason for others may be one for them
			}
			p := plans()[name]
			c.to(&p)
			if got := Check(p); (got == api.OK) != c.may || got != api.OK && got != api.ErrPlan {
				t.Errorf("%s, %s: %d", name, c.name, got)
			}
		}
	}
}

// numbers are changes of the example's numbers: each alone is why it may not be. Its N2 rises by 1250 in a frame, so that it comes to 13999 at most.
func numbers() []change {
	set := func(trip, need, burst int) func(p *api.Plan) {
		return func(p *api.Plan) { p.Trip, p.Need, p.Burst = trip, need, burst }
	}
	still := func(trip, need, burst int) func(p *api.Plan) { // an engine whose starter turns nothing, and that rises by 1
		return func(p *api.Plan) {
			set(trip, need, burst)(p)
			p.Engine.Starter, p.Engine.Light, p.Engine.Lag2, p.Engine.N2 = 0, 0, 64, line(1000, 0, 64)
		}
	}
	engine := func(starter, lag, disturb, trip int) func(p *api.Plan) {
		return func(p *api.Plan) {
			set(trip, 1, most)(p)
			p.Engine.Starter, p.Engine.Light, p.Engine.Lag2, p.Engine.Disturb = starter, 0, lag, disturb
		}
	}
	return []change{
		{"Trip is MaxCount", set(mostCount, 2, most), true},
		{"Trip is above MaxCount", set(mostCount+1, 2, most), false},
		{"Trip is 1", still(1, 1, most), true},
		{"Trip is 0", still(0, 1, most), false},
		{"Trip is below 0", still(-1, 1, most), false},
		{"Trip is the least int", still(math.MinInt, 1, most), false},
		{"Trip is the greatest int", still(math.MaxInt, 1, most), false},
		{"Trip is 2^32 and more", set(1<<32+11500, 2, most), false},
		{"Need is 1", set(11500, 1, 15000), true},
		{"Need is 0", set(11500, 0, 15000), false},
		{"Need is below 0", set(11500, -1, 15000), false},
		{"Need is the least int", set(11500, math.MinInt, 15000), false},
		{"Need is MaxNeed", still(11500, mostNeed, most), true},
		{"Need is above MaxNeed", still(11500, mostNeed+1, most), false},
		{"Need is the greatest int", still(11500, math.MaxInt, most), false},
		{"Need is 2^32 and more", still(11500, 1<<32+1, most), false},
		{"Burst is MaxNumber", set(11500, 2, most), true},
		{"Burst is above MaxNumber", set(11500, 2, most+1), false},
		{"Burst is the greatest int", set(11500, 2, math.MaxInt), false},
		{"Burst is 0", set(11500, 2, 0), false},
		{"Burst is below 0", set(11500, 2, -15000), false},
		{"Burst is the least int", set(11500, 2, math.MinInt), false},
		{"Burst is Trip", set(11500, 2, 11500), false},

		{"Most is just less than Burst", set(11500, 2, 14000), true},
		{"Most is Burst", set(11500, 2, 13999), false},
		{"Most is above Burst", set(11500, 2, 13998), false},
		{"Most is just less, with a frame more", set(11500, 3, 15250), true},
		{"Most is Burst, with a frame more", set(11500, 3, 15249), false},
		{"Most is just less, with one more of Trip", set(11501, 2, 14001), true},
		{"Most is Burst, with one more of Trip", set(11501, 2, 14000), false},
		{"Most is just less than Burst, which is 1", still(1, 1, 2), true},
		{"Most is Burst, which is 1", still(1, 1, 1), false},
		{"Most is just less than Burst, by the most frames", still(2000, mostNeed, 3000), true},
		{"Most is Burst, by the most frames", still(2000, mostNeed, 2999), false},
		{"gusts rise too", func(p *api.Plan) { p.Engine.Disturb, p.Burst = 7, 14014 }, true},
		{"gusts rise too, to Burst", func(p *api.Plan) { p.Engine.Disturb, p.Burst = 7, 14013 }, false},
		{"the starter is faster", func(p *api.Plan) { p.Engine.Starter, p.Burst = 11016, 14254 }, true},
		{"the starter is faster, to Burst", func(p *api.Plan) { p.Engine.Starter, p.Burst = 11016, 14253 }, false},

		{"Starter is just less than Trip", engine(11499, 8, 0, 11500), true},
		{"Starter is Trip", engine(11500, 8, 0, 11500), false},
		{"Starter is above Trip", engine(11501, 8, 0, 11500), false},
		{"Starter is a lag above Trip", engine(11508, 8, 0, 11500), false},
		{"Starter is above Trip, with a gust", engine(11501, 8, 1, 11500), false},
		{"Starter is MaxNumber", engine(most, 64, 0, mostCount), false},
		{"Disturb is room by Lag2", engine(1500, 8, 1250, 11500), true},
		{"Disturb is one more", engine(1500, 8, 1251, 11500), false},
		{"Disturb is room by Lag2, and a part", engine(1500, 8, 1250, 11507), true},
		{"Disturb is above room by Lag2, and a part", engine(1500, 8, 1251, 11507), false},
		{"Disturb is room by Lag2, with a part no more", engine(1500, 8, 1251, 11508), true},
		{"room is less than Lag2", engine(11493, 8, 0, 11500), true},
		{"room is less than Lag2, and there are gusts", engine(11493, 8, 1, 11500), false},
		{"room is Lag2", engine(11492, 8, 1, 11500), true},
		{"room is Lag2, and Disturb 2", engine(11492, 8, 2, 11500), false},
		{"Lag2 is 1", engine(1500, 1, 10000, 11500), true},
		{"Lag2 is 1, and Disturb one more", engine(1500, 1, 10001, 11500), false},
		{"Lag2 is the greatest", engine(1500, 64, 156, 11500), true},
		{"Lag2 is the greatest, and Disturb one more", engine(1500, 64, 157, 11500), false},
		{"Disturb is MaxNumber", engine(0, 1, most, mostCount), false},
	}
}

// P22.1: a plan may not be, if its numbers may not be, each for one reason.
func TestCheckOfNumbers(t *testing.T) {
	for _, c := range numbers() {
		p := example()
		c.to(&p)
		if got := Check(p); (got == api.OK) != c.may || got != api.OK && got != api.ErrPlan {
			t.Errorf("%s: %d", c.name, got)
		}
	}
}

// P22.1: the plans that others hold on may be; the empty one may not; nor those for several reasons at once.
func TestCheckOfPlans(t *testing.T) {
	for _, name := range names(plans()) {
		if got := Check(plans()[name]); got != api.OK {
			t.Errorf("%s: %d", name, got)
		}
	}
	if got := Check(api.Plan{}); got != api.ErrPlan {
		t.Errorf("an empty plan: %d", got)
	}
	many := slices.Concat(parts(), numbers())
	for _, one := range many {
		for _, two := range many {
			p := example()
			if one.to(&p); one.may || two.may {
				continue
			}
			two.to(&p)
			if got := Check(p); got != api.ErrPlan && !mayBe(p) { // one may undo the other
				t.Errorf("%s, and %s: %d", one.name, two.name, got)
			}
		}
	}
}

// bad are plans that may not be, each for one reason.
func bad() []api.Plan {
	out := []api.Plan{{}}
	for _, c := range slices.Concat(parts(), numbers()) {
		if p := example(); !c.may {
			c.to(&p)
			out = append(out, p)
		}
	}
	return out
}

// mayBe is P22.1 in words of its own.
func mayBe(p api.Plan) bool {
	if synth.Check(p.Engine) != api.OK || schedule.Check(p.Laws) != api.OK {
		return false
	}
	for i := range api.Signals {
		if check.Check(p.Limits[i]) != api.OK || p.Near[i] < 0 || p.Near[i] > most {
			return false
		}
	}
	if p.Trip <= 0 || p.Trip > mostCount || p.Need <= 0 || p.Need > mostNeed || p.Burst > most {
		return false
	}
	e := p.Engine
	rise := max(e.Starter, slices.Max(e.N2.Y))/e.Lag2 + e.Disturb
	return p.Trip+p.Need*rise <= p.Burst && p.Trip > e.Starter && e.Lag2*e.Disturb <= p.Trip-e.Starter
}

// P22.1: plans with numbers that dice tell, most of them near what is just so, are as told.
func TestCheckAsTold(t *testing.T) {
	var d dice
	count := [2]int{}
	for range 40000 {
		p := example()
		e := &p.Engine
		e.Lag2, e.Starter, e.Light = 1+d.upTo(64), d.upTo(12000), 0
		p.Trip = d.one([]int{0, 1, e.Starter - 1, e.Starter, e.Starter + 1, e.Starter + d.upTo(9000), mostCount, mostCount + 1})
		e.Disturb = d.one(around((p.Trip - e.Starter) / e.Lag2))
		p.Need = d.one([]int{0, 1, 2, 3, 1 + d.upTo(40), 999, 1000, 1001})
		p.Burst = d.one(around(cutoff.Most(p.Trip, p.Need, plant.Rise(*e)), most))
		p.Near[d.upTo(api.Signals)] = d.one([]int{0, 1, 2, 3, 4, 5, most, most, -1, most + 1})
		want := api.ErrPlan
		if mayBe(p) {
			want = api.OK
		}
		if got := Check(p); got != want {
			t.Fatalf("%+v: %d", p, got)
		}
		count[want/api.ErrPlan]++
	}
	if count[0] < 2000 || count[1] < 2000 {
		t.Errorf("%v: too seldom to tell", count)
	}
}

// P22.1: with any one of its numbers at the ends of an int a plan is as told.
func TestCheckOfEnds(t *testing.T) {
	for _, name := range names(plans()) {
		for _, n := range endsOfInt() {
			p := plans()[name]
			numbersOf := []*int{&p.Trip, &p.Need, &p.Burst}
			for i := range api.Signals {
				l := &p.Limits[i]
				numbersOf = append(numbersOf, &p.Near[i], &l.Low, &l.High, &l.Rate, &l.Stuck, &l.Bad, &l.Fine)
			}
			e, l := &p.Engine, &p.Laws
			numbersOf = append(numbersOf, &e.Lag2, &e.Lag1, &e.LagE, &e.Slew, &e.Starter, &e.Light, &e.Lean, &e.Disturb)
			numbersOf = append(numbersOf, &l.Red1, &l.Red2, &l.RedE, &l.Margin, &l.Idle, &l.Patience)
			for i, at := range numbersOf {
				was := *at
				*at = n
				if got := Check(p); (got == api.OK) != mayBe(p) {
					t.Errorf("%s, the number %d at %d: %d", name, i, n, got)
				}
				*at = was
			}
		}
	}
}
