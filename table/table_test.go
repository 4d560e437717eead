package table

import (
	"math"
	"math/big"
	"slices"
	"testing"

	"turbojet/api"
)

const most = 1 << 20

func of(x, y []int) api.Table { return api.Table{X: x, Y: y} }

// example is the chapter's table.
func example() api.Table { return of([]int{0, 10, 20}, []int{0, 100, 50}) }

// line has n places 0, 1, 2 .. with the values 5, 6, 7 ..
func line(n int) api.Table {
	t := api.Table{}
	for i := range n {
		t.X, t.Y = append(t.X, i), append(t.Y, 5+i)
	}
	return t
}

// tables may be: ordinary ones, the chapter's edges, falling ones, flat ones, steep ones, and ones up to the greatest number.
func tables() []api.Table {
	l := []api.Table{
		example(), line(2), line(3), line(15), line(16),
		of([]int{3, 6}, []int{10, 3}),
		of([]int{0, 7}, []int{3, 0}),
		of([]int{0, 7, 9}, []int{20, 0, 5}),
		of([]int{5, 6, 7}, []int{9, 9, 9}),
		of([]int{2, 4, 11, 12}, []int{8, 3, 3, 9}),
		of([]int{1, 9, 10, 30}, []int{4, 6, 2, 7}),
		of([]int{0, 1}, []int{0, most}),
		of([]int{0, 1}, []int{most, 0}),
		of([]int{most - 1, most}, []int{0, most}),
		of([]int{0, 1, 2}, []int{most, 0, most}),
		of([]int{0, 3}, []int{0, most}),
		of([]int{0, 3}, []int{most, 0}),
		of([]int{10, 13, 110}, []int{0, 100, 103}),
		of([]int{10, 107, 110}, []int{103, 100, 0}),
	}
	for k := range 60 {
		l = append(l, scattered(k))
	}
	return l
}

// scattered has places and values that a short rule scatters.
func scattered(k int) api.Table {
	t, place := api.Table{}, k%4
	for i := range 2 + k%15 {
		t.X = append(t.X, place)
		t.Y = append(t.Y, (k*k*31+i*i*57+i*k*13)%(11+20*(k%5)))
		place += 1 + (k*7+i*i*3)%9
	}
	return t
}

// wide are tables with the greatest numbers, too wide to go through whole.
func wide() []api.Table {
	return []api.Table{
		of([]int{0, most}, []int{0, most}),
		of([]int{0, most}, []int{most, 0}),
		of([]int{0, most}, []int{0, most - 1}),
		of([]int{0, most}, []int{most - 1, 0}),
		of([]int{1, most}, []int{0, most}),
		of([]int{0, most - 1, most}, []int{0, 1, most}),
		of([]int{0, 1, most}, []int{most, 7, 0}),
		of([]int{17, 99999, 700001, most}, []int{3, 888888, 12, 1000003}),
	}
}

// bad are tables that may not be, each for one cause.
func bad() map[string]api.Table {
	long, longer := line(17), line(40)
	return map[string]api.Table{
		"nil lists":                 {},
		"lists without elements":    of([]int{}, []int{}),
		"nil values":                of([]int{1, 2}, nil),
		"nil places":                of(nil, []int{1, 2}),
		"one place":                 line(1),
		"one place, two values":     of([]int{1}, []int{1, 2}),
		"17 places":                 long,
		"40 places":                 longer,
		"fewer values":              of([]int{1, 2, 3}, []int{1, 2}),
		"more values":               of([]int{1, 2}, []int{1, 2, 3}),
		"17 places, 16 values":      of(long.X, long.Y[:16]),
		"16 places, 17 values":      of(long.X[:16], long.Y),
		"places that stand still":   of([]int{1, 1}, []int{1, 2}),
		"the last ones stand still": of([]int{1, 2, 2}, []int{1, 2, 3}),
		"places that fall":          of([]int{2, 1}, []int{1, 2}),
		"the middle falls":          of([]int{1, 5, 4, 6}, []int{1, 2, 3, 4}),
		"the last ones fall":        of([]int{1, 5, 6, 4}, []int{1, 2, 3, 4}),
		"a place below 0":           of([]int{-1, 2}, []int{1, 2}),
		"a value below 0":           of([]int{1, 2}, []int{-1, 2}),
		"the last value below 0":    of([]int{1, 2}, []int{1, -1}),
		"a place above 2^20":        of([]int{1, most + 1}, []int{1, 2}),
		"the first value above":     of([]int{1, 2}, []int{most + 1, 2}),
		"the last value above":      of([]int{1, 2}, []int{1, most + 1}),
		"the least int, a place":    of([]int{math.MinInt, 1}, []int{1, 2}),
		"the greatest int, a place": of([]int{1, math.MaxInt}, []int{1, 2}),
		"the least int, a value":    of([]int{1, 2}, []int{1, math.MinInt}),
		"the greatest int, a value": of([]int{1, 2}, []int{math.MaxInt, 1}),
		"the ends of an int":        of([]int{math.MinInt, math.MaxInt}, []int{math.MaxInt, math.MinInt}),
	}
}

// outsiders are numbers that no place or value of a table reaches.
func outsiders() []int {
	return []int{math.MinInt, math.MinInt + 1, -1 << 62, -1 << 40, -1 << 31, -2, -1, most + 1, 1 << 31, 1 << 40, 1 << 62, math.MaxInt - 1, math.MaxInt}
}

// near are the numbers around each of a list, and those in the middle of two.
func near(l []int) []int {
	out := outsiders()
	for i, x := range l {
		out = append(out, x-2, x-1, x, x+1, x+2)
		if i > 0 {
			m := (l[i-1] + x) / 2
			out = append(out, m-1, m, m+1)
		}
	}
	return out
}

// wantAt is P2.2, word by word: big.Int's Div goes down where the divisor is above 0.
func wantAt(t api.Table, x int) int {
	last := len(t.X) - 1
	if x <= t.X[0] {
		return t.Y[0]
	}
	if x >= t.X[last] {
		return t.Y[last]
	}
	i := 0
	for t.X[i+1] < x {
		i++
	}
	a, b, c, d := t.X[i], t.X[i+1], t.Y[i], t.Y[i+1]
	p := new(big.Int).Mul(big.NewInt(int64(x-a)), big.NewInt(int64(d-c)))
	return c + int(p.Div(p, big.NewInt(int64(b-a))).Int64())
}

// small are the tables of which all numbers from the first place to the last one can be gone through.
func small() []api.Table {
	return slices.DeleteFunc(tables(), func(t api.Table) bool { return t.X[len(t.X)-1]-t.X[0] > 1000 })
}

// P2.1: tables that may be: 2 and 16 places, 0 and 2^20.
func TestCheckOK(t *testing.T) {
	for _, x := range append(tables(), wide()...) {
		if e := Check(x); e != api.OK {
			t.Errorf("%v: %v", x, e)
		}
	}
}

// P2.1: tables that may not be are told so; all other calls answer zero values of them.
func TestBad(t *testing.T) {
	for name, x := range bad() {
		if e := Check(x); e != api.ErrTable {
			t.Errorf("%s: %v", name, e)
		}
		if Rising(x) {
			t.Errorf("%s: rising", name)
		}
		for _, n := range append(outsiders(), 0, 1, 2, 3, most) {
			if at, back := At(x, n), Back(x, n); at != 0 || back != 0 {
				t.Errorf("%s: at %d it is %d, back %d", name, n, at, back)
			}
		}
		if peak, steep := Peak(x), Steep(x); peak != 0 || steep != 0 {
			t.Errorf("%s: peak %d, steep %d", name, peak, steep)
		}
	}
}

// P2.1: a table rises if no value is below the one ahead of it; values that stand still do not fall.
func TestRising(t *testing.T) {
	for _, c := range []struct {
		y    []int
		want bool
	}{
		{[]int{0, 0}, true}, {[]int{0, 1}, true}, {[]int{1, 0}, false}, {[]int{4, 4, 4}, true},
		{[]int{0, most}, true}, {[]int{most, most}, true}, {[]int{most, most - 1}, false},
		{[]int{1, 2, 3, 2}, false}, {[]int{3, 1, 2, 3}, false}, {[]int{1, 3, 2, 4}, false}, {[]int{1, 2, 2, 3}, true},
		{line(16).Y, true},
	} {
		if got := Rising(of(line(len(c.y)).X, c.y)); got != c.want {
			t.Errorf("%v: %v", c.y, got)
		}
	}
}

// P2.2: by hand: the chapter's examples, places, ends, and quotients below 0.
func TestAt(t *testing.T) {
	falls := of([]int{3, 6}, []int{10, 3})
	gently := of([]int{0, 7}, []int{3, 0})
	rises := of([]int{0, 3}, []int{0, 2})
	for _, c := range []struct {
		t       api.Table
		x, want int
	}{
		{example(), 5, 50}, {example(), 13, 85}, {example(), -3, 0}, {example(), 99, 50},
		{example(), 0, 0}, {example(), 1, 10}, {example(), 9, 90}, {example(), 10, 100}, {example(), 11, 95}, {example(), 19, 55}, {example(), 20, 50}, {example(), 21, 50},
		{example(), math.MinInt, 0}, {example(), math.MaxInt, 50},
		{falls, 2, 10}, {falls, 3, 10}, {falls, 4, 7}, {falls, 5, 5}, {falls, 6, 3}, {falls, 7, 3}, {falls, math.MinInt, 10}, {falls, math.MaxInt, 3},
		{gently, 1, 2}, {gently, 2, 2}, {gently, 3, 1}, {gently, 4, 1}, {gently, 5, 0}, {gently, 6, 0}, {gently, 7, 0},
		{rises, 1, 0}, {rises, 2, 1}, {rises, 3, 2},
		{wide()[0], most / 2, most / 2}, {wide()[0], most, most}, {wide()[1], 1, most - 1}, {wide()[3], 1, most - 2},
	} {
		if got := At(c.t, c.x); got != c.want {
			t.Errorf("%v at %d: %d, not %d", c.t, c.x, got, c.want)
		}
	}
}

// P2.2: against the promise's words.
func TestAtAsTold(t *testing.T) {
	for _, x := range append(tables(), wide()...) {
		for _, n := range near(x.X) {
			if got, want := At(x, n), wantAt(x, n); got != want {
				t.Errorf("%v at %d: %d, not %d", x, n, got, want)
			}
		}
	}
	for _, x := range small() {
		for n := x.X[0] - 2; n <= x.X[len(x.X)-1]+2; n++ {
			if got, want := At(x, n), wantAt(x, n); got != want {
				t.Errorf("%v at %d: %d, not %d", x, n, got, want)
			}
		}
	}
}

// P2.3: by hand: the chapter's examples, values that no place reaches, values that are reached twice.
func TestBack(t *testing.T) {
	dips := of([]int{2, 5, 9}, []int{7, 1, 9})
	flat := of([]int{4, 6, 8}, []int{3, 3, 3})
	thirds := of([]int{1, 4}, []int{0, 1})
	for _, c := range []struct {
		t       api.Table
		y, want int
	}{
		{example(), 95, 10}, {example(), 101, 20}, {example(), 100, 10}, {example(), 91, 10}, {example(), 90, 9}, {example(), 50, 5}, {example(), 1, 1}, {example(), 0, 0}, {example(), -5, 0},
		{example(), math.MinInt, 0}, {example(), math.MaxInt, 20},
		{dips, 1, 2}, {dips, 7, 2}, {dips, 8, 9}, {dips, 9, 9}, {dips, 10, 9},
		{flat, 3, 4}, {flat, 2, 4}, {flat, 4, 8},
		{thirds, 0, 1}, {thirds, 1, 4}, {thirds, 2, 4},
		{wide()[0], 777, 777}, {wide()[0], most, most}, {wide()[0], most + 1, most}, {wide()[5], 1, most - 1}, {wide()[5], 2, most},
	} {
		if got := Back(c.t, c.y); got != c.want {
			t.Errorf("%v back %d: %d, not %d", c.t, c.y, got, c.want)
		}
	}
}

// P2.3: the least place, asked one by one.
func TestBackAsTold(t *testing.T) {
	for _, x := range small() {
		last := x.X[len(x.X)-1]
		for _, y := range near(slices.Sorted(slices.Values(x.Y))) {
			want := x.X[0]
			for want < last && wantAt(x, want) < y {
				want++
			}
			if got := Back(x, y); got != want {
				t.Errorf("%v back %d: %d, not %d", x, y, got, want)
			}
		}
	}
}

// P2.3: in wide tables: what is answered has so much; and the places ahead of it, so far as they are asked, have less.
func TestBackWide(t *testing.T) {
	for _, x := range wide() {
		last := x.X[len(x.X)-1]
		for _, y := range near(slices.Sorted(slices.Values(x.Y))) {
			got := Back(x, y)
			if got < x.X[0] || got > last || wantAt(x, got) < y && got != last {
				t.Errorf("%v back %d: %d", x, y, got)
			}
			for _, n := range append(near(x.X), got-1, got-2) {
				if n >= x.X[0] && n < got && wantAt(x, n) >= y {
					t.Errorf("%v back %d: %d, but %d is less", x, y, got, n)
				}
			}
		}
	}
}

// P2.4: by hand.
func TestPeakSteep(t *testing.T) {
	for _, c := range []struct {
		t           api.Table
		peak, steep int
	}{
		{example(), 100, 10},
		{of([]int{3, 6}, []int{10, 3}), 10, 3},
		{of([]int{3, 6}, []int{3, 10}), 10, 3},
		{of([]int{0, 7}, []int{3, 0}), 3, 1},
		{of([]int{0, 7}, []int{0, 3}), 3, 1},
		{of([]int{5, 6, 7}, []int{9, 9, 9}), 9, 0},
		{of([]int{5, 6}, []int{0, 0}), 0, 0},
		{of([]int{0, 2, 4}, []int{8, 0, 5}), 8, 4},
		{of([]int{0, 2, 4}, []int{5, 0, 8}), 8, 4},
		{of([]int{0, 1, 2}, []int{most, 0, most}), most, most},
		{of([]int{0, 1}, []int{0, most}), most, most},
		{of([]int{0, most}, []int{0, most}), most, 1},
		{of([]int{0, most}, []int{0, 1}), 1, 1},
		{of([]int{1, most}, []int{most, 0}), most, 2},
		{line(16), 20, 1},
	} {
		if peak, steep := Peak(c.t), Steep(c.t); peak != c.peak || steep != c.steep {
			t.Errorf("%v: peak %d, steep %d", c.t, peak, steep)
		}
	}
}

// P2.4: against all numbers from the first place to the last one.
func TestPeakSteepAsTold(t *testing.T) {
	for _, x := range small() {
		peak, steep := wantAt(x, x.X[0]), 0
		for n := x.X[0] + 1; n <= x.X[len(x.X)-1]; n++ {
			a, b := wantAt(x, n-1), wantAt(x, n)
			peak, steep = max(peak, b), max(steep, a-b, b-a)
		}
		if Peak(x) != peak || Steep(x) != steep {
			t.Errorf("%v: peak %d, not %d; steep %d, not %d", x, Peak(x), peak, Steep(x), steep)
		}
	}
}

// P2.5: at its places a table has its values, and between two places it is between their values.
func TestBetween(t *testing.T) {
	for _, x := range append(tables(), wide()...) {
		for i, place := range x.X {
			if got := At(x, place); got != x.Y[i] {
				t.Errorf("%v at %d: %d", x, place, got)
			}
		}
		for _, n := range near(x.X) {
			i, _ := slices.BinarySearch(x.X, n)
			if i == 0 || i == len(x.X) {
				continue
			}
			if got := At(x, n); got < min(x.Y[i-1], x.Y[i]) || got > max(x.Y[i-1], x.Y[i]) {
				t.Errorf("%v at %d: %d", x, n, got)
			}
		}
	}
}

// P2.5: a rising one rises, and its Back finds no place behind one with so much.
func TestRisingRises(t *testing.T) {
	for _, x := range append(tables(), wide()...) {
		if x.Y = slices.Sorted(slices.Values(x.Y)); !Rising(x) {
			t.Errorf("%v does not rise", x)
		}
		l := slices.Sorted(slices.Values(near(x.X)))
		for i := 1; i < len(l); i++ {
			if a, b := At(x, l[i-1]), At(x, l[i]); a > b {
				t.Errorf("%v at %d and %d: %d and %d", x, l[i-1], l[i], a, b)
			}
			if n := l[i]; Back(x, At(x, n)) > max(n, x.X[0]) {
				t.Errorf("%v: back %d is behind %d", x, At(x, n), n)
			}
		}
	}
}

// R4: what is handed in is neither changed nor kept, its spare room included; R5: the room behind a list tells nothing.
func TestHandedIn(t *testing.T) {
	room := []int{0, 10, 20, 7, -1}
	values := []int{0, 100, 50, 99999, 3}
	x := of(room[:3], values[:3])
	for range 2 {
		if Check(x) != api.OK || Rising(x) || At(x, 13) != 85 || Back(x, 101) != 20 || Peak(x) != 100 || Steep(x) != 10 {
			t.Errorf("%v", x)
		}
	}
	if !slices.Equal(room, []int{0, 10, 20, 7, -1}) || !slices.Equal(values, []int{0, 100, 50, 99999, 3}) {
		t.Errorf("changed: %v %v", room, values)
	}
	values[1] = 40
	if At(x, 10) != 40 || Peak(x) != 50 || Steep(x) != 4 || !Rising(x) {
		t.Error("an earlier table is kept")
	}
}
