package mode

import (
	"fmt"
	"maps"
	"math"
	"slices"
	"testing"

	"turbojet/api"
	"turbojet/schedule"
	"turbojet/synth"
)

// most is the greatest number that engines and laws may have; patience that of the frames that laws wait; ages the greatest Since.
const (
	most     = 1 << 20
	patience = 10000
	ages     = 1 << 30
)

func of(x, y []int) api.Table { return api.Table{X: x, Y: y} }

func line(x, a, b int) api.Table { return of([]int{0, x}, []int{a, b}) }

// engine is that of chapter 10: it lights from 1000 on.
func engine() api.Engine {
	return api.Engine{
		Fuel: line(1000, 200, 900), N2: line(1000, 0, 10000), N1: line(10000, 0, 8000), Heat: line(1000, 0, 900),
		Lag2: 8, Lag1: 8, LagE: 4, Slew: 50, Starter: 1500, Light: 1000, Lean: 100,
	}
}

// laws are those of chapter 14: it idles from 1800 on, is too hot from 1000 on, and waits for 200 frames.
func laws() api.Laws {
	return api.Laws{
		Accel: line(10000, 300, 1000), Decel: line(10000, 0, 600), Start: line(10000, 220, 260),
		Red1: 9000, Red2: 11000, RedE: 1000, Margin: 50, Idle: 1800, Patience: 200,
	}
}

// withLight is an engine that lights from a speed on; withLaws are laws whose limits are these, and whose margin is as narrow as may be.
func withLight(light int) api.Engine {
	e := engine()
	e.Light, e.Starter = light, max(light, 1500)
	return e
}

func withLaws(idle, redE, wait int) api.Laws {
	l := laws()
	l.Idle, l.RedE, l.Margin, l.Patience = idle, redE, 1, wait
	return l
}

// set is an engine, and laws, and which of them may be.
type set struct {
	name                 string
	engine               api.Engine
	laws                 api.Laws
	goodEngine, goodLaws bool
}

// sets have limits that are unlike, so that none can stand in for another one; the ends that limits have; and engines, and laws, that may not be.
func sets() []set {
	out := []set{
		{"example", engine(), laws(), true, true},
		{"unlike", withLight(300), withLaws(700, 500, 40), true, true},
		{"least", withLight(0), withLaws(1, 1, 1), true, true},
		{"greatest", withLight(most), withLaws(most, most, patience), true, true},
	}
	for _, name := range slices.Sorted(maps.Keys(badEngines())) {
		out = append(out, set{"engine: " + name, badEngines()[name], laws(), false, true})
	}
	for _, name := range slices.Sorted(maps.Keys(badLaws())) {
		out = append(out, set{"laws: " + name, engine(), badLaws()[name], true, false})
	}
	return append(out, set{"neither", api.Engine{}, api.Laws{}, false, false}, set{"neither, nearly", badEngines()["Lag2 at 0"], badLaws()["Margin at 0"], false, false})
}

// badEngines may not be, each for one cause, but the first one; their Light is one that may.
func badEngines() map[string]api.Engine {
	bad := map[string]api.Engine{"nothing": {}}
	for name, change := range map[string]func(*api.Engine){
		"Lag2 at 0":        func(e *api.Engine) { e.Lag2 = 0 },
		"Lag1 at 65":       func(e *api.Engine) { e.Lag1 = 65 },
		"Slew at 0":        func(e *api.Engine) { e.Slew = 0 },
		"Lean at 0":        func(e *api.Engine) { e.Lean = 0 },
		"Lean above Fuel":  func(e *api.Engine) { e.Lean = 201 },
		"Light at -1":      func(e *api.Engine) { e.Light = -1 },
		"Light at least":   func(e *api.Engine) { e.Light = math.MinInt },
		"Light at Starter": func(e *api.Engine) { e.Light, e.Starter = 1000, 999 },
		"Disturb beyond":   func(e *api.Engine) { e.Disturb = most + 1 },
		"N2 falls":         func(e *api.Engine) { e.N2 = line(1000, 10000, 0) },
		"no Heat":          func(e *api.Engine) { e.Heat = api.Table{} },
	} {
		e := engine()
		change(&e)
		bad[name] = e
	}
	return bad
}

// badLaws may not be, each for one cause, but the first ones; limits are nearly all of those that may.
func badLaws() map[string]api.Laws {
	bad := map[string]api.Laws{"nothing": {}}
	for name, change := range map[string]func(*api.Laws){
		"Margin at 0":     func(l *api.Laws) { l.Margin = 0 },
		"Red1 low":        func(l *api.Laws) { l.Red1 = 49 },
		"RedE low":        func(l *api.Laws) { l.RedE = 49 },
		"RedE at least":   func(l *api.Laws) { l.RedE = math.MinInt },
		"Idle at 0":       func(l *api.Laws) { l.Idle = 0 },
		"Idle at least":   func(l *api.Laws) { l.Idle = math.MinInt },
		"Patience at 0":   func(l *api.Laws) { l.Patience = 0 },
		"Patience beyond": func(l *api.Laws) { l.Patience = patience + 1 },
		"Start falls":     func(l *api.Laws) { l.Start = line(1000, 2, 1) },
		"no Accel":        func(l *api.Laws) { l.Accel = api.Table{} },
	} {
		l := laws()
		change(&l)
		bad[name] = l
	}
	return bad
}

// endsOfInt are numbers at the ends of an int, at those of fixed numbers, around 0, and those whose lesser half is ordinary.
func endsOfInt() []int {
	return []int{math.MinInt, math.MinInt + 1, -1 << 62, -1<<32 + 5000, -1<<31 - 1, -1 << 31, -most, -2, -1, 0, 1, 2, most, 1<<31 - 1, 1 << 31, 1<<32 + 5000, 1 << 62, math.MaxInt - 1, math.MaxInt}
}

// near are the numbers around each of some, and the ends; in order.
func near(l ...int) []int {
	out := endsOfInt()
	for _, x := range l {
		out = append(out, x-1, x, x+1)
	}
	slices.Sort(out)
	return slices.Compact(out)
}

// around are a limit less one, the limit, and one above.
func around(limit int) []int { return []int{limit - 1, limit, limit + 1} }

// modes are all that there are; none are some that there are not.
func modes() []int {
	return []int{api.MOff, api.MCrank, api.MStart, api.MLight, api.MIdle, api.MRun, api.MShut, api.MRelight, api.MAbort}
}

func none() []int {
	return []int{math.MinInt, math.MinInt + 1, -1<<32 + 2, -1 << 31, -10, -9, -2, -1, 9, 10, 11, 15, 16, 17, 255, 256, 1<<31 - 1, 1 << 31, 1 << 32, 1<<32 + 5, math.MaxInt - 1, math.MaxInt}
}

// panels are all settings of the switches, with a lever.
func panels(lever int) []api.Panel {
	var out []api.Panel
	for i := range 16 {
		out = append(out, api.Panel{Master: i&1 != 0, Start: i&2 != 0, Crank: i&4 != 0, Revert: i&8 != 0, Lever: lever})
	}
	return out
}

// sight is what a mode sees in a frame, beside the engine and the laws.
type sight struct {
	panel    api.Panel
	lit      bool
	n2, heat int
}

// told is P17.1, mode by mode, in words of its own.
func told(s set, p api.Phase, v sight) api.Phase {
	ready := s.goodEngine && v.n2 >= s.engine.Light
	hot := s.goodLaws && v.heat >= s.laws.RedE
	away := s.goodLaws && v.lit && v.n2 >= s.laws.Idle
	hung := s.goodLaws && p.Since >= s.laws.Patience
	to := -1
	first := func(so bool, next int) {
		if so && to < 0 {
			to = next
		}
	}
	off := !v.panel.Master
	switch p.Mode {
	case 0:
		first(!off && v.panel.Start, 2)
		first(off && v.panel.Crank, 1)
	case 1:
		first(!off, 0)
		first(!v.panel.Crank, 0)
	case 2:
		first(off, 6)
		first(ready, 3)
		first(hung, 8)
	case 3, 7:
		first(off, 6)
		first(hot, 8)
		first(away, 4)
		first(hung, 8)
	case 4:
		first(off, 6)
		first(!v.lit, 7)
		first(v.panel.Lever >= 50, 5)
	case 5:
		first(off, 6)
		first(!v.lit, 7)
		first(v.panel.Lever < 50, 4)
	case 6:
		first(off && !ready, 0)
	case 8:
		first(off, 6)
	default:
		return api.Phase{}
	}
	switch {
	case to >= 0:
		return api.Phase{Mode: to}
	case p.Since < 0:
		return api.Phase{Mode: p.Mode, Since: 1}
	case p.Since >= ages:
		return api.Phase{Mode: p.Mode, Since: ages}
	}
	return api.Phase{Mode: p.Mode, Since: p.Since + 1}
}

func next(s set, p api.Phase, v sight) api.Phase {
	return Next(s.engine, s.laws, p, v.panel, v.lit, v.n2, v.heat)
}

// P17.1: the chapter's examples.
func TestExamples(t *testing.T) {
	for _, c := range []struct {
		from  int
		panel api.Panel
		lit   bool
		want  int
	}{
		{api.MOff, api.Panel{Master: true, Start: true}, false, api.MStart},
		{api.MIdle, api.Panel{Master: true, Lever: 50}, true, api.MRun},
		{api.MRun, api.Panel{}, false, api.MShut},
		{api.MRun, api.Panel{}, true, api.MShut},
	} {
		if got := Next(engine(), laws(), api.Phase{Mode: c.from, Since: 7}, c.panel, c.lit, 2000, 0); got != (api.Phase{Mode: c.want}) {
			t.Errorf("%d, %+v, %t: %+v", c.from, c.panel, c.lit, got)
		}
	}
}

// P17.1: the numbers of the modes, and those that go with them.
func TestNumbers(t *testing.T) {
	for want, got := range modes() {
		if got != want {
			t.Errorf("the mode %d has the number %d", want, got)
		}
	}
	if api.Modes != 9 || len(modes()) != 9 || api.RunLever != 50 || api.MaxTime != ages || api.MaxNumber != most {
		t.Errorf("Modes %d, RunLever %d, MaxTime %d, MaxNumber %d", api.Modes, api.RunLever, api.MaxTime, api.MaxNumber)
	}
}

// P17.1, P17.2: what these tests take for engines and laws that may be, may be; and what they take for others may not.
func TestMay(t *testing.T) {
	for _, s := range sets() {
		if a, b := synth.Check(s.engine) == api.OK, schedule.Check(s.laws) == api.OK; a != s.goodEngine || b != s.goodLaws {
			t.Errorf("%s: engine %t, laws %t", s.name, a, b)
		}
	}
}

// rowCase is a row of the table by hand: a mode with what is seen in it, and the one that follows; stays is where none does.
type rowCase struct {
	name     string
	from     int
	since    int
	switches string // m, s, c, r: Master, Start, Crank, Revert
	lever    int
	lit      bool
	n2, heat int
	to       int
}

const stays = -1

func panel(switches string, lever int) api.Panel {
	p := api.Panel{Lever: lever}
	for _, s := range switches {
		switch s {
		case 'm':
			p.Master = true
		case 's':
			p.Start = true
		case 'c':
			p.Crank = true
		case 'r':
			p.Revert = true
		}
	}
	return p
}

func tryRows(t *testing.T, s set, cases []rowCase) {
	t.Helper()
	for _, c := range cases {
		want := api.Phase{Mode: c.to}
		if c.to == stays {
			want = api.Phase{Mode: c.from, Since: c.since + 1}
		}
		if got := next(s, api.Phase{Mode: c.from, Since: c.since}, sight{panel(c.switches, c.lever), c.lit, c.n2, c.heat}); got != want {
			t.Errorf("%s: %+v, not %+v: %+v", c.name, got, want, c)
		}
	}
}

// both is a case in MLight, and in MRelight.
func both(c rowCase) []rowCase {
	again := c
	c.from, again.from = api.MLight, api.MRelight
	return []rowCase{c, again}
}

// bothRuns is a case in MIdle with a lever that stays there, and in MRun.
func bothRuns(c rowCase) []rowCase {
	run := c
	c.from, c.lever = api.MIdle, 49
	run.from, run.lever = api.MRun, 50
	return []rowCase{c, run}
}

// P17.1: by hand, MOff, MCrank, MShut and MAbort: each row where it is so, and where just one part of it is not.
func TestRowsAtRest(t *testing.T) {
	tryRows(t, sets()[0], []rowCase{
		{"starts", api.MOff, 5, "ms", 0, false, 0, 0, api.MStart},
		{"starts, cranked", api.MOff, 5, "msc", 0, false, 0, 0, api.MStart},
		{"master alone", api.MOff, 5, "m", 0, false, 0, 0, stays},
		{"start alone", api.MOff, 5, "s", 0, false, 0, 0, stays},
		{"cranks", api.MOff, 5, "c", 0, false, 0, 0, api.MCrank},
		{"cranks, with start", api.MOff, 5, "sc", 0, false, 0, 0, api.MCrank},
		{"crank with master", api.MOff, 5, "mc", 0, false, 0, 0, stays},
		{"nothing", api.MOff, 5, "", 0, false, 0, 0, stays},
		{"nothing, but speed and heat", api.MOff, 500, "", 1000, true, 9000, 9000, stays},

		{"crank ends by the master", api.MCrank, 5, "mc", 0, false, 0, 0, api.MOff},
		{"crank ends", api.MCrank, 5, "", 0, false, 0, 0, api.MOff},
		{"crank ends by both", api.MCrank, 5, "m", 0, false, 0, 0, api.MOff},
		{"crank ends by both, with start", api.MCrank, 5, "ms", 0, false, 0, 0, api.MOff},
		{"crank goes on", api.MCrank, 5, "c", 0, false, 0, 0, stays},
		{"crank goes on for long", api.MCrank, 500, "c", 1000, true, 9000, 9000, stays},

		{"slow, without master", api.MShut, 5, "", 0, false, 999, 0, api.MOff},
		{"below 0, without master", api.MShut, 5, "", 0, false, -1, 0, api.MOff},
		{"slow, and lit", api.MShut, 5, "", 1000, true, 999, 9000, api.MOff},
		{"slow, with master", api.MShut, 5, "m", 0, false, 999, 0, stays},
		{"fast, without master", api.MShut, 5, "", 0, false, 1000, 0, stays},
		{"faster, without master", api.MShut, 500, "", 0, false, 1001, 0, stays},
		{"fast, with master", api.MShut, 500, "m", 1000, true, 1000, 9000, stays},

		{"let go", api.MAbort, 5, "", 0, false, 0, 0, api.MShut},
		{"let go, fast", api.MAbort, 500, "", 1000, true, 9000, 9000, api.MShut},
		{"held", api.MAbort, 5, "m", 0, false, 0, 0, stays},
		{"held, fast", api.MAbort, 500, "m", 1000, true, 9000, 9000, stays},
	})
}

// P17.1: by hand, MStart, MLight and MRelight: each row where it is so, and where just one part of it is not.
func TestRowsToStart(t *testing.T) {
	tryRows(t, sets()[0], []rowCase{
		{"let go", api.MStart, 5, "", 0, false, 0, 0, api.MShut},
		{"let go, still started", api.MStart, 5, "sc", 0, false, 0, 0, api.MShut},
		{"ready", api.MStart, 5, "m", 0, false, 1000, 0, api.MLight},
		{"more than ready", api.MStart, 5, "m", 0, false, 1001, 0, api.MLight},
		{"not ready", api.MStart, 5, "m", 0, false, 999, 0, stays},
		{"not ready, below 0", api.MStart, 5, "m", 0, false, -1000, 0, stays},
		{"hung", api.MStart, 200, "m", 0, false, 999, 0, api.MAbort},
		{"hung for long", api.MStart, 201, "m", 0, false, 999, 0, api.MAbort},
		{"not hung yet", api.MStart, 199, "m", 0, false, 999, 0, stays},
		{"hot, and lit, of no row", api.MStart, 5, "m", 1000, true, 999, 9000, stays},
	})
	for _, c := range []rowCase{
		{"let go", 0, 5, "", 0, false, 0, 0, api.MShut},
		{"let go, still started", 0, 5, "sc", 0, false, 0, 0, api.MShut},
		{"hot", 0, 5, "m", 0, false, 0, 1000, api.MAbort},
		{"hotter", 0, 5, "m", 0, false, 0, 1001, api.MAbort},
		{"not hot", 0, 5, "m", 0, false, 0, 999, stays},
		{"away", 0, 5, "m", 0, true, 1800, 0, api.MIdle},
		{"far away", 0, 5, "m", 0, true, 1801, 0, api.MIdle},
		{"too slow", 0, 5, "m", 0, true, 1799, 0, stays},
		{"not lit", 0, 5, "m", 0, false, 1800, 0, stays},
		{"not lit, nor fast", 0, 5, "m", 0, false, 1799, 0, stays},
		{"hung", 0, 200, "m", 0, false, 1800, 0, api.MAbort},
		{"hung, lit", 0, 200, "m", 0, true, 1799, 0, api.MAbort},
		{"hung for long", 0, 201, "m", 0, true, 1799, 0, api.MAbort},
		{"not hung yet", 0, 199, "m", 0, true, 1799, 999, stays},
		{"a lever, of no row", 0, 5, "m", 1000, true, 1799, 999, stays},
	} {
		tryRows(t, sets()[0], both(c))
	}
}

// P17.1: by hand, MIdle and MRun: each row where it is so, and where just one part of it is not.
func TestRowsToRun(t *testing.T) {
	for _, c := range []rowCase{
		{"let go", 0, 5, "", 0, true, 2000, 0, api.MShut},
		{"let go, still started", 0, 5, "sc", 0, true, 2000, 0, api.MShut},
		{"blown out", 0, 5, "m", 0, false, 2000, 0, api.MRelight},
		{"blown out, slow", 0, 5, "m", 0, false, 0, 0, api.MRelight},
		{"goes on", 0, 5, "m", 0, true, 2000, 0, stays},
		{"goes on, slow", 0, 5, "m", 0, true, 0, 0, stays},
		{"goes on, hot, for long", 0, 500, "m", 0, true, 9000, 9000, stays},
	} {
		tryRows(t, sets()[0], bothRuns(c))
	}
	for lever, runs := range map[int]bool{math.MinInt: false, -1<<32 + 50: false, -1 << 31: false, -50: false, -1: false, 0: false, 1: false, 48: false, 49: false, 50: true, 51: true, 1000: true, 1001: true, 1<<31 - 1: true, 1 << 31: true, 1 << 32: true, math.MaxInt: true} {
		idle, run := stays, api.MIdle
		if runs {
			idle, run = api.MRun, stays
		}
		tryRows(t, sets()[0], []rowCase{
			{"lever", api.MIdle, 5, "m", lever, true, 2000, 0, idle},
			{"lever, slow and hot", api.MIdle, 500, "ms", lever, true, 0, 9000, idle},
			{"lever", api.MRun, 5, "m", lever, true, 2000, 0, run},
			{"lever, slow and hot", api.MRun, 500, "mc", lever, true, 0, 9000, run},
			{"lever, let go", api.MIdle, 5, "", lever, true, 2000, 0, api.MShut},
			{"lever, let go", api.MRun, 5, "", lever, true, 2000, 0, api.MShut},
			{"lever, blown out", api.MIdle, 5, "m", lever, false, 2000, 0, api.MRelight},
			{"lever, blown out", api.MRun, 5, "m", lever, false, 2000, 0, api.MRelight},
		})
	}
}

// P17.1: where two rows of a mode are so, the first one.
func TestFirstRow(t *testing.T) {
	tryRows(t, sets()[0], []rowCase{
		{"let go, ready", api.MStart, 5, "", 0, false, 1000, 0, api.MShut},
		{"let go, hung", api.MStart, 200, "", 0, false, 0, 0, api.MShut},
		{"let go, ready, hung", api.MStart, 200, "", 0, false, 1000, 0, api.MShut},
		{"ready, hung", api.MStart, 200, "m", 0, false, 1000, 0, api.MLight},
		{"let go, blown out", api.MIdle, 5, "", 0, false, 2000, 0, api.MShut},
		{"let go, blown out", api.MRun, 5, "", 50, false, 2000, 0, api.MShut},
		{"let go, lever forward", api.MIdle, 5, "", 50, true, 2000, 0, api.MShut},
		{"let go, lever back", api.MRun, 5, "", 49, true, 2000, 0, api.MShut},
		{"blown out, lever forward", api.MIdle, 5, "m", 50, false, 2000, 0, api.MRelight},
		{"blown out, lever back", api.MRun, 5, "m", 49, false, 2000, 0, api.MRelight},
		{"all", api.MIdle, 5, "", 50, false, 2000, 0, api.MShut},
		{"all", api.MRun, 5, "", 49, false, 2000, 0, api.MShut},
	})
	for _, c := range []rowCase{
		{"let go, hot", 0, 5, "", 0, false, 0, 1000, api.MShut},
		{"let go, away", 0, 5, "", 0, true, 1800, 0, api.MShut},
		{"let go, hung", 0, 200, "", 0, false, 0, 0, api.MShut},
		{"all", 0, 200, "", 0, true, 1800, 1000, api.MShut},
		{"hot, away", 0, 5, "m", 0, true, 1800, 1000, api.MAbort},
		{"away, hung", 0, 200, "m", 0, true, 1800, 999, api.MIdle},
		{"hot, hung", 0, 200, "m", 0, true, 1799, 1000, api.MAbort},
		{"hot, away, hung", 0, 200, "m", 0, true, 1800, 1000, api.MAbort},
	} {
		tryRows(t, sets()[0], both(c))
	}
}

// still is what each mode sees, for whatever Since, where no row of it is so.
func still() map[int]sight {
	held := api.Panel{Master: true}
	return map[int]sight{
		api.MOff:   {panel: held},
		api.MCrank: {panel: api.Panel{Crank: true}},
		api.MIdle:  {panel: held, lit: true, n2: 2000},
		api.MRun:   {panel: api.Panel{Master: true, Lever: 50}, lit: true, n2: 2000},
		api.MShut:  {panel: held},
		api.MAbort: {panel: held},
	}
}

// P17.1: where no row is so, a mode with itself, and Since one more, up to its end.
func TestSince(t *testing.T) {
	longer := map[int]int{
		math.MinInt: 1, math.MinInt + 1: 1, -1<<32 + 5: 1, -1 << 31: 1, -2: 1, -1: 1, 0: 1, 1: 2, 2: 3, 199: 200, 200: 201, 65535: 65536,
		ages - 2: ages - 1, ages - 1: ages, ages: ages, ages + 1: ages, 1<<31 - 1: ages, 1 << 31: ages, 1 << 32: ages, 1<<32 + 5: ages, math.MaxInt - 1: ages, math.MaxInt: ages,
	}
	hangs := func(mode int) bool { return mode == api.MStart || mode == api.MLight || mode == api.MRelight }
	for since, want := range longer {
		for mode, v := range still() {
			if got := next(sets()[0], api.Phase{Mode: mode, Since: since}, v); got != (api.Phase{Mode: mode, Since: want}) {
				t.Errorf("%d behind %d frames: %+v", mode, since, got)
			}
		}
		for _, mode := range modes() {
			if !hangs(mode) {
				continue
			}
			held := sight{panel: api.Panel{Master: true}}
			for _, s := range sets() {
				if s.goodEngine && s.engine.Light == 0 {
					continue
				}
				phase := api.Phase{Mode: mode, Since: want}
				if s.goodLaws && since >= s.laws.Patience {
					phase = api.Phase{Mode: api.MAbort}
				}
				if got := next(s, api.Phase{Mode: mode, Since: since}, held); got != phase {
					t.Errorf("%s: %d behind %d frames: %+v, not %+v", s.name, mode, since, got, phase)
				}
			}
		}
	}
}

// P17.1: a mode that goes on to another one begins at 0, however long it was.
func TestSinceBegins(t *testing.T) {
	for _, since := range near(199, ages) {
		for from, to := range map[int]int{api.MStart: api.MShut, api.MLight: api.MShut, api.MIdle: api.MShut, api.MRun: api.MShut, api.MShut: api.MOff, api.MRelight: api.MShut, api.MAbort: api.MShut, api.MCrank: api.MOff} {
			if got := next(sets()[0], api.Phase{Mode: from, Since: since}, sight{}); got != (api.Phase{Mode: to}) {
				t.Errorf("%d behind %d frames: %+v", from, since, got)
			}
		}
		if got := next(sets()[0], api.Phase{Since: since}, sight{panel: api.Panel{Crank: true}}); got != (api.Phase{Mode: api.MCrank}) {
			t.Errorf("MOff behind %d frames: %+v", since, got)
		}
	}
}

// P17.1: limits, each at its ends and at those that are ordinary: one less, at it, one above, and the ends of int.
func TestLimits(t *testing.T) {
	held := api.Panel{Master: true}
	try := func(name string, s set, from, since int, v sight, to int) {
		t.Helper()
		want := api.Phase{Mode: to}
		if to == from {
			want.Since = min(max(since, 0)+1, ages)
		}
		if got := next(s, api.Phase{Mode: from, Since: since}, v); got != want {
			t.Errorf("%s: from %d, %d frames, %+v: %+v, not %+v", name, from, since, v, got, want)
		}
	}
	which := func(so bool, a, b int) int {
		if so {
			return a
		}
		return b
	}
	for _, light := range []int{0, 1, 999, 1000, most} {
		s := set{"", withLight(light), laws(), true, true}
		for _, n2 := range near(light) {
			try("Light", s, api.MStart, 0, sight{held, false, n2, 0}, which(n2 >= light, api.MLight, api.MStart))
			try("Light", s, api.MShut, 0, sight{api.Panel{}, true, n2, 0}, which(n2 >= light, api.MShut, api.MOff))
		}
	}
	for _, from := range []int{api.MLight, api.MRelight} {
		for _, idle := range []int{1, 2, 1800, most} {
			s := set{"", engine(), withLaws(idle, 1000, 200), true, true}
			for _, n2 := range near(idle) {
				try("Idle, lit", s, from, 3, sight{held, true, n2, 0}, which(n2 >= idle, api.MIdle, from))
				try("Idle", s, from, 3, sight{held, false, n2, 0}, from)
			}
		}
		for _, red := range []int{1, 2, 1000, most} {
			s := set{"", engine(), withLaws(1800, red, 200), true, true}
			for _, heat := range near(red) {
				try("RedE", s, from, 3, sight{held, false, 0, heat}, which(heat >= red, api.MAbort, from))
			}
		}
	}
	for _, from := range []int{api.MStart, api.MLight, api.MRelight} {
		for _, wait := range []int{1, 2, 200, patience} {
			s := set{"", engine(), withLaws(1800, 1000, wait), true, true}
			for _, since := range near(wait) {
				try("Patience", s, from, since, sight{held, false, 0, 0}, which(since >= wait, api.MAbort, from))
			}
		}
	}
}

// everywhere goes through panels, and what else is seen, around the limits of a set, and through frames.
func everywhere(s set, ask func(since int, v sight)) {
	speeds := slices.Concat(around(s.engine.Light), around(s.laws.Idle), []int{math.MinInt, -1, 0, math.MaxInt})
	heats := slices.Concat(around(s.laws.RedE)[:2], []int{math.MinInt, -1, math.MaxInt})
	sinces := slices.Concat(around(s.laws.Patience)[:2], []int{math.MinInt, 0, ages, math.MaxInt})
	for _, lever := range []int{math.MinInt, 0, 49, 50, math.MaxInt} {
		for _, p := range panels(lever) {
			for _, n2 := range speeds {
				for _, heat := range heats {
					for _, since := range sinces {
						ask(since, sight{p, false, n2, heat})
						ask(since, sight{p, true, n2, heat})
					}
				}
			}
		}
	}
}

// P17.1, P17.4: every mode, against the table in this test's words, of all that may be seen, with engines and laws that may not be, too; and what follows is allowed.
func TestAsTold(t *testing.T) {
	came := map[[2]int]int{}
	for _, s := range sets() {
		for _, mode := range modes() {
			everywhere(s, func(since int, v sight) {
				p := api.Phase{Mode: mode, Since: since}
				got, want := next(s, p, v), told(s, p, v)
				if got != want {
					t.Fatalf("%s: %+v, %+v: %+v, not %+v", s.name, p, v, got, want)
				}
				if !Allowed(mode, got.Mode) {
					t.Fatalf("%s: %+v, %+v: %+v is not allowed", s.name, p, v, got)
				}
				came[[2]int{mode, got.Mode}]++
			})
		}
	}
	for _, from := range modes() {
		for _, to := range modes() {
			if Allowed(from, to) != (came[[2]int{from, to}] > 0) {
				t.Errorf("Allowed(%d, %d): %t, it came %d times", from, to, Allowed(from, to), came[[2]int{from, to}])
			}
		}
	}
}

// P17.1: a mode that is none is followed by MOff, from 0 on, whatever is seen.
func TestNone(t *testing.T) {
	for _, s := range []set{sets()[0], {"nothing", api.Engine{}, api.Laws{}, false, false}} {
		for _, mode := range none() {
			for _, since := range near(200, ages) {
				for _, lever := range []int{math.MinInt, 0, 50, math.MaxInt} {
					for _, p := range panels(lever) {
						for _, v := range []sight{{p, false, 0, 0}, {p, true, 5000, 5000}, {p, true, math.MaxInt, math.MaxInt}} {
							if got := next(s, api.Phase{Mode: mode, Since: since}, v); got != (api.Phase{}) {
								t.Fatalf("%s: %d behind %d frames, %+v: %+v", s.name, mode, since, v, got)
							}
						}
					}
				}
			}
		}
	}
}

// P17.1: of an engine that may not be, none is ready; the laws still tell.
func TestNoEngine(t *testing.T) {
	for name, e := range badEngines() {
		s := set{name, e, laws(), false, true}
		for _, n2 := range near(1000, 1800) {
			tryRows(t, s, []rowCase{
				{name + ": never ready", api.MStart, 5, "m", 0, true, n2, 0, stays},
				{name + ": hung", api.MStart, 200, "m", 0, true, n2, 0, api.MAbort},
				{name + ": let go", api.MStart, 5, "", 0, true, n2, 0, api.MShut},
				{name + ": is off", api.MShut, 5, "", 0, true, n2, 0, api.MOff},
				{name + ": stays shut", api.MShut, 5, "m", 0, true, n2, 0, stays},
			})
		}
		tryRows(t, s, both(rowCase{name + ": hot", 0, 5, "m", 0, false, 0, 1000, api.MAbort}))
		tryRows(t, s, both(rowCase{name + ": away", 0, 5, "m", 0, true, 1800, 999, api.MIdle}))
		tryRows(t, s, both(rowCase{name + ": hung", 0, 200, "m", 0, true, 1799, 999, api.MAbort}))
		tryRows(t, s, []rowCase{{name + ": starts", api.MOff, 5, "ms", 0, false, 0, 0, api.MStart}, {name + ": runs", api.MIdle, 5, "m", 50, true, 0, 0, api.MRun}})
	}
}

// P17.1: of laws that may not be, none is hot, away or hung; the engine still tells.
func TestNoLaws(t *testing.T) {
	for name, l := range badLaws() {
		s := set{name, engine(), l, true, false}
		for _, n := range []int{math.MinInt, -1, 0, 999, 1000, 1800, 5000, most, math.MaxInt} {
			for _, since := range []int{0, 199, 200, patience, patience + 1, ages - 1} {
				tryRows(t, s, both(rowCase{name + ": goes on", 0, since, "m", 0, true, n, n, stays}))
				tryRows(t, s, both(rowCase{name + ": goes on", 0, since, "m", 50, false, n, n, stays}))
				tryRows(t, s, both(rowCase{name + ": let go", 0, since, "", 0, true, n, n, api.MShut}))
				tryRows(t, s, []rowCase{{name + ": never hung", api.MStart, since, "m", 0, true, min(n, 999), n, stays}})
			}
		}
		tryRows(t, s, []rowCase{
			{name + ": ready", api.MStart, 5, "m", 0, false, 1000, 0, api.MLight},
			{name + ": starts", api.MOff, 5, "ms", 0, false, 0, 0, api.MStart},
			{name + ": blown out", api.MRun, 5, "m", 50, false, 0, 0, api.MRelight},
			{name + ": fast", api.MShut, 5, "", 0, false, 1000, 0, stays},
			{name + ": slow", api.MShut, 5, "", 0, false, 999, 0, api.MOff},
		})
	}
}

// P17.1: switches that a mode's rows don't name change nothing: Revert nowhere, Start in MOff alone, Crank in MOff and MCrank alone; nor does the lever, but in MIdle and MRun.
func TestUnnamed(t *testing.T) {
	for _, s := range sets()[:2] {
		for _, mode := range modes() {
			everywhere(s, func(since int, v sight) {
				plain := v
				plain.panel.Revert = false
				if mode != api.MOff {
					plain.panel.Start = false
				}
				if mode != api.MOff && mode != api.MCrank {
					plain.panel.Crank = false
				}
				if mode != api.MIdle && mode != api.MRun {
					plain.panel.Lever = 0
				}
				p := api.Phase{Mode: mode, Since: since}
				if a, b := next(s, p, v), next(s, p, plain); a != b {
					t.Fatalf("%s: %+v, %+v: %+v, not %+v", s.name, p, v, a, b)
				}
			})
		}
	}
}

// P17.2: by hand, what each mode orders, below Light, at it, and above it, and with an engine that may not be.
func TestOrders(t *testing.T) {
	fuel := api.Orders{Open: true, Fuel: true}
	spark := api.Orders{Ignition: true, Open: true, Fuel: true}
	turn := api.Orders{Starter: true}
	whole := api.Orders{Starter: true, Ignition: true, Open: true, Fuel: true}
	want := []api.Orders{{}, turn, turn, whole, fuel, fuel, {}, spark, {}}
	burns := []bool{false, false, false, false, true, true, false, false, false}
	for _, s := range sets() {
		for _, n2 := range near(s.engine.Light, 1000) {
			for mode, o := range want {
				if mode == api.MRelight && (!s.goodEngine || n2 < s.engine.Light) {
					o = whole
				}
				if got := Orders(s.engine, mode, n2); got != o {
					t.Errorf("%s: Orders(%d, %d) = %+v, not %+v", s.name, mode, n2, got, o)
				}
			}
			for _, mode := range none() {
				if got := Orders(s.engine, mode, n2); got != (api.Orders{}) {
					t.Errorf("%s: Orders(%d, %d) = %+v", s.name, mode, n2, got)
				}
			}
		}
	}
	for mode, so := range burns {
		if Burns(mode) != so {
			t.Errorf("Burns(%d) = %t", mode, Burns(mode))
		}
	}
	for _, mode := range none() {
		if Burns(mode) {
			t.Errorf("Burns(%d)", mode)
		}
	}
}

// P17.2: by hand, the one order that hangs on the speed.
func TestRelightStarter(t *testing.T) {
	for n2, want := range map[int]bool{math.MinInt: true, -1 << 31: true, -1: true, 0: true, 998: true, 999: true, 1000: false, 1001: false, 1500: false, most: false, 1 << 31: false, math.MaxInt: false} {
		if got := Orders(engine(), api.MRelight, n2); got.Starter != want || !got.Ignition || !got.Open || !got.Fuel {
			t.Errorf("at %d: %+v", n2, got)
		}
		if got := Orders(api.Engine{}, api.MRelight, n2); !got.Starter || !got.Ignition || !got.Open || !got.Fuel {
			t.Errorf("no engine, at %d: %+v", n2, got)
		}
		for _, mode := range []int{api.MCrank, api.MStart, api.MLight} {
			if !Orders(engine(), mode, n2).Starter || !Orders(api.Engine{}, mode, n2).Starter {
				t.Errorf("%d at %d: no starter", mode, n2)
			}
		}
	}
}

// P17.3: by hand, which mode may follow which, of every two.
func TestAllowed(t *testing.T) {
	follow := [][]int{
		api.MOff:     {api.MOff, api.MCrank, api.MStart},
		api.MCrank:   {api.MOff, api.MCrank},
		api.MStart:   {api.MStart, api.MLight, api.MShut, api.MAbort},
		api.MLight:   {api.MLight, api.MIdle, api.MShut, api.MAbort},
		api.MIdle:    {api.MIdle, api.MRun, api.MShut, api.MRelight},
		api.MRun:     {api.MIdle, api.MRun, api.MShut, api.MRelight},
		api.MShut:    {api.MOff, api.MShut},
		api.MRelight: {api.MIdle, api.MShut, api.MRelight, api.MAbort},
		api.MAbort:   {api.MShut, api.MAbort},
	}
	for _, from := range append(modes(), none()...) {
		for _, to := range append(modes(), none()...) {
			want := 0 <= from && from < len(follow) && slices.Contains(follow[from], to)
			if got := Allowed(from, to); got != want {
				t.Errorf("Allowed(%d, %d) = %t", from, to, got)
			}
		}
	}
	for from := -40; from < 40; from++ {
		for to := -40; to < 40; to++ {
			want := 0 <= from && from < len(follow) && slices.Contains(follow[from], to)
			if got := Allowed(from, to); got != want {
				t.Errorf("Allowed(%d, %d) = %t", from, to, got)
			}
		}
	}
}

// P17.4: from every mode, without the master for two frames, no fuel is open, whatever else is seen in each of them; nor behind any more of them.
func TestNoMasterNoFuel(t *testing.T) {
	seen := []sight{{}, {lit: true}, {n2: 999}, {lit: true, n2: 1000}, {lit: true, n2: 1800, heat: 999}, {n2: 5000, heat: 5000}, {lit: true, n2: math.MinInt, heat: math.MinInt}, {lit: true, n2: math.MaxInt, heat: math.MaxInt}}
	shut := func(s set, p api.Phase, n2 int) bool {
		o := Orders(s.engine, p.Mode, n2)
		return !o.Open && !o.Fuel && !o.Ignition && !Burns(p.Mode)
	}
	without := func(v sight, p api.Panel) sight {
		v.panel = p
		v.panel.Master = false
		return v
	}
	for _, s := range sets() {
		for _, mode := range append(modes(), none()...) {
			for i, a := range panels(0) {
				for _, b := range panels(50) {
					one, two := without(seen[i%len(seen)], a), without(seen[(i*5+3)%len(seen)], b)
					p := next(s, next(s, api.Phase{Mode: mode, Since: 3 * i}, one), two)
					if !shut(s, p, two.n2) || !shut(s, p, one.n2) {
						t.Fatalf("%s: from %d by %+v, %+v: %+v with fuel", s.name, mode, one, two, p)
					}
					for k := range 6 {
						p = next(s, p, without(seen[(i+k)%len(seen)], b))
						if !shut(s, p, two.n2) {
							t.Fatalf("%s: from %d: %+v with fuel, behind %d frames", s.name, mode, p, k+3)
						}
					}
				}
			}
		}
	}
}

// frame is what is seen in one of a row of frames, scattered by a short rule; the master and the flame are seldom off for long.
func frame(s set, k, n int) sight {
	r := (k*7919 + n*104729 + n*n*31) % 1000003
	lists := near(s.engine.Light, s.laws.Idle, s.laws.RedE, s.laws.Patience)
	return sight{
		panel: api.Panel{Master: r%7 != 0, Start: r%2 == 0, Crank: r%3 == 0, Revert: r%5 == 0, Lever: []int{0, 49, 50, 51, 1000, -1, math.MaxInt, math.MinInt}[r/11%8]},
		lit:   r/13%4 != 0,
		n2:    lists[r/17%len(lists)],
		heat:  min(lists[r/19%len(lists)], []int{0, 499, math.MaxInt}[r/23%3]),
	}
}

// P17.1, P17.4: over rows of frames: each is as told, and allowed; no fuel is open behind two frames without the master; and Since is how many frames a mode went on.
func TestRowsOfFrames(t *testing.T) {
	came := map[int]int{}
	for _, s := range sets() {
		for k := range 40 {
			p, off, since := api.Phase{Mode: k%12 - 1}, 0, 0
			for n := range 200 {
				v := frame(s, k, n)
				was := p
				p = next(s, was, v)
				if want := told(s, was, v); p != want {
					t.Fatalf("%s: %+v, %+v: %+v, not %+v", s.name, was, v, p, want)
				}
				if slices.Contains(modes(), was.Mode) && !Allowed(was.Mode, p.Mode) {
					t.Fatalf("%s: %+v behind %+v is not allowed", s.name, p, was)
				}
				if since++; p.Mode != was.Mode {
					since = 0
				}
				if p.Since != since {
					t.Fatalf("%s: %+v, not %d frames", s.name, p, since)
				}
				if off++; v.panel.Master {
					off = 0
				}
				if o := Orders(s.engine, p.Mode, v.n2); off >= 2 && (o.Open || o.Fuel) {
					t.Fatalf("%s: %+v with fuel, %d frames without master", s.name, p, off)
				}
				came[p.Mode]++
			}
		}
	}
	for _, mode := range modes() {
		if came[mode] < 100 {
			t.Errorf("the mode %d came %d times: too seldom to tell", mode, came[mode])
		}
	}
}

// P17.1: a start from rest to run, and shut down again, frame by frame.
func TestWholeRun(t *testing.T) {
	e, l, p := engine(), laws(), api.Phase{}
	for i, c := range []struct {
		switches string
		lever    int
		lit      bool
		n2       int
		want     api.Phase
	}{
		{"", 0, false, 0, api.Phase{Mode: api.MOff, Since: 1}},
		{"ms", 0, false, 0, api.Phase{Mode: api.MStart}},
		{"ms", 0, false, 500, api.Phase{Mode: api.MStart, Since: 1}},
		{"m", 0, false, 1000, api.Phase{Mode: api.MLight}},
		{"m", 0, true, 1400, api.Phase{Mode: api.MLight, Since: 1}},
		{"m", 0, true, 1800, api.Phase{Mode: api.MIdle}},
		{"m", 500, true, 2000, api.Phase{Mode: api.MRun}},
		{"m", 500, true, 5000, api.Phase{Mode: api.MRun, Since: 1}},
		{"m", 500, false, 4900, api.Phase{Mode: api.MRelight}},
		{"m", 500, true, 4800, api.Phase{Mode: api.MIdle}},
		{"m", 500, true, 4900, api.Phase{Mode: api.MRun}},
		{"m", 0, true, 4900, api.Phase{Mode: api.MIdle}},
		{"", 0, true, 4900, api.Phase{Mode: api.MShut}},
		{"", 0, false, 4000, api.Phase{Mode: api.MShut, Since: 1}},
		{"", 0, false, 999, api.Phase{Mode: api.MOff}},
		{"c", 0, false, 900, api.Phase{Mode: api.MCrank}},
		{"", 0, false, 900, api.Phase{Mode: api.MOff}},
	} {
		if p = Next(e, l, p, panel(c.switches, c.lever), c.lit, c.n2, 0); p != c.want {
			t.Fatalf("%d: %+v, not %+v", i, p, c.want)
		}
	}
}

// tables are those of an engine and of laws.
func tables(e *api.Engine, l *api.Laws) []*api.Table {
	return []*api.Table{&e.Fuel, &e.N2, &e.N1, &e.Heat, &l.Accel, &l.Decel, &l.Start}
}

// roomy has the same lists, with spare room.
func roomy(s set) set {
	room := func(l []int) []int { return append(slices.Clone(l), 77, 78, 79)[:len(l)] }
	for _, t := range tables(&s.engine, &s.laws) {
		t.X, t.Y = room(t.X), room(t.Y)
	}
	return s
}

// whole is all that a set is, the spare room of its lists included.
func whole(s set) string {
	for _, t := range tables(&s.engine, &s.laws) {
		t.X, t.Y = t.X[:cap(t.X)], t.Y[:cap(t.Y)]
	}
	return fmt.Sprint(s)
}

// answers are what all calls tell of a set, and of a frame.
func answers(s set, k int) string {
	var out []any
	for _, mode := range append(modes(), none()...) {
		for n := range 5 {
			v := frame(s, k, n)
			p := next(s, api.Phase{Mode: mode, Since: 50 * n}, v)
			out = append(out, p, Orders(s.engine, mode, v.n2), Burns(mode), Allowed(mode, p.Mode), Allowed(mode, n))
		}
	}
	return fmt.Sprint(out...)
}

// R4, R5: what is handed in is as it was behind the calls, spare room included; calls ahead change nothing; and spare room does not matter.
func TestHandedIn(t *testing.T) {
	for k, s := range sets() {
		full := roomy(s)
		was, first := whole(full), answers(full, k)
		if whole(full) != was {
			t.Fatalf("%s became %s", was, whole(full))
		}
		answers(sets()[1], k+1)
		if answers(full, k) != first {
			t.Fatalf("%s: another answer, the second time", s.name)
		}
		if answers(s, k) != first {
			t.Fatalf("%s: another answer, without spare room", s.name)
		}
	}
}
