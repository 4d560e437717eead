package grid

import (
	"math"
	"math/big"
	"slices"
	"testing"

	"turbojet/api"
	"turbojet/table"
)

const most = 1 << 20

func of(x, y []int) api.Table { return api.Table{X: x, Y: y} }

func grid(z []int, t ...api.Table) api.Grid { return api.Grid{Z: z, T: t} }

// one and two are the chapter's tables, example its grid.
func one() api.Table    { return of([]int{0, 10}, []int{0, 100}) }
func two() api.Table    { return of([]int{0, 10}, []int{100, 200}) }
func example() api.Grid { return grid([]int{0, 10}, one(), two()) }

// line has n places 0, 3, 6 .., and tables that rise along and beside each other.
func line(n int) api.Grid {
	g := api.Grid{}
	for i := range n {
		g.Z, g.T = append(g.Z, 3*i), append(g.T, of([]int{1, 4, 5}, []int{i, 10 + i, 20 + 7*i}))
	}
	return g
}

// grids may be: ordinary ones, the chapter's edges, tables that fall from one place to the next, tables of different places, and the greatest numbers.
func grids() []api.Grid {
	l := []api.Grid{
		example(), line(1), line(2), line(3), line(7), line(8),
		grid([]int{0, 3}, two(), one()),
		grid([]int{0, 7}, of([]int{0, 10}, []int{3, 9}), of([]int{0, 10}, []int{0, 0})),
		grid([]int{2, 5, 6}, one(), of([]int{3, 6, 7}, []int{10, 3, 90}), two()),
		grid([]int{0}, one()), grid([]int{most}, two()), grid([]int{0, 1}, two(), one()),
		grid([]int{0, most}, of([]int{0, most}, []int{0, most}), of([]int{0, most}, []int{most, 0})),
		grid([]int{0, most}, of([]int{0, most}, []int{most, most}), of([]int{0, most}, []int{0, most - 1})),
		grid([]int{most - 1, most}, of([]int{most - 1, most}, []int{0, most}), of([]int{0, 1}, []int{most, 0})),
		grid([]int{5, 99999, 700001, most}, of([]int{17, 888888}, []int{3, 999983}), of([]int{0, 1}, []int{12, 11}), of([]int{4, most}, []int{most, 1}), of([]int{1, 7777}, []int{0, 1000003})),
	}
	for k := range 40 {
		l = append(l, scattered(k))
	}
	return l
}

// scattered has places and values that a short rule scatters, the tables of some over the same places, of others not.
func scattered(k int) api.Grid {
	g, z := api.Grid{}, k%3
	for i := range 1 + k%8 {
		t, x := api.Table{}, k%4
		for j := range 2 + k%6 {
			t.X = append(t.X, x)
			t.Y = append(t.Y, (k*k*31+i*i*57+j*j*29+i*j*13)%(11+20*(k%5)))
			x += 1 + (k*7+j*j*3+i*(k%2))%9
		}
		g.Z, g.T = append(g.Z, z), append(g.T, t)
		z += 1 + (k*5+i*i)%9
	}
	return g
}

// bad are grids that may not be, each for one cause.
func bad() map[string]api.Grid {
	long, z := line(9), func(z ...int) api.Grid { return grid(z, line(len(z)).T...) }
	wrong := func(t api.Table) api.Grid { return grid([]int{0, 1, 2}, one(), t, two()) }
	return map[string]api.Grid{
		"nil lists":                {},
		"lists without elements":   grid([]int{}, []api.Table{}...),
		"nil tables":               {Z: []int{1}},
		"nil places":               {T: []api.Table{one()}},
		"9 places":                 long,
		"30 places":                line(30),
		"8 places, 9 tables":       grid(long.Z[:8], long.T...),
		"9 places, 8 tables":       grid(long.Z, long.T[:8]...),
		"fewer tables":             grid([]int{1, 2, 3}, one(), two()),
		"more tables":              grid([]int{1}, one(), two()),
		"places that stand still":  z(1, 1),
		"the last stand still":     z(1, 2, 2),
		"places that fall":         z(2, 1),
		"the middle falls":         z(1, 5, 4, 6),
		"the last fall":            z(1, 5, 6, 4),
		"a place below 0":          z(-1),
		"the first below 0":        z(-1, 0, 1),
		"a place above 2^20":       z(most + 1),
		"the last above 2^20":      z(0, most, most+1),
		"the least int":            z(math.MinInt, 3),
		"the greatest int":         z(3, math.MaxInt),
		"the ends of an int":       z(math.MinInt, math.MaxInt),
		"a nil table":              wrong(api.Table{}),
		"one table, that is nil":   grid([]int{1}, api.Table{}),
		"a table with one place":   wrong(of([]int{1}, []int{1})),
		"a table without values":   wrong(of([]int{1, 2}, nil)),
		"a table that falls":       wrong(of([]int{2, 1}, []int{1, 2})),
		"a table below 0":          wrong(of([]int{1, 2}, []int{-1, 2})),
		"a table above 2^20":       wrong(of([]int{1, 2}, []int{1, most + 1})),
		"a table of 17 places":     wrong(of(make([]int, 17), make([]int, 17))),
		"the first table is wrong": grid([]int{0, 1}, of([]int{1, 1}, []int{1, 2}), two()),
		"the last table is wrong":  grid([]int{0, 1}, one(), of([]int{1, 1}, []int{1, 2})),
	}
}

// outsiders are numbers that no place reaches.
func outsiders() []int {
	return []int{math.MinInt, math.MinInt + 1, -1 << 62, -1 << 31, -1, most + 1, 1 << 31, 1 << 62, math.MaxInt - 1, math.MaxInt}
}

// near are the numbers around each of a list, those in the middle of two, and outsiders; in order.
func near(l ...int) []int {
	out := outsiders()
	for i, x := range l {
		out = append(out, x-2, x-1, x, x+1, x+2)
		if i > 0 {
			m := (l[i-1] + x) / 2
			out = append(out, m-1, m, m+1)
		}
	}
	slices.Sort(out)
	return slices.Compact(out)
}

// along are numbers near to the places X of all of a grid's tables.
func along(g api.Grid) []int {
	var l []int
	for _, t := range g.T {
		l = append(l, t.X...)
	}
	slices.Sort(l)
	return near(l...)
}

// wantAt is P3.2, word by word: big.Int's Div goes down where the divisor is above 0.
func wantAt(g api.Grid, z, x int) int {
	last := len(g.Z) - 1
	if z <= g.Z[0] {
		return table.At(g.T[0], x)
	}
	if z >= g.Z[last] {
		return table.At(g.T[last], x)
	}
	i := 0
	for g.Z[i+1] < z {
		i++
	}
	a, b, c, d := g.Z[i], g.Z[i+1], table.At(g.T[i], x), table.At(g.T[i+1], x)
	p := new(big.Int).Mul(big.NewInt(int64(z-a)), big.NewInt(int64(d-c)))
	return c + int(p.Div(p, big.NewInt(int64(b-a))).Int64())
}

// wantRising is P3.1, word by word, of a grid that may be.
func wantRising(g api.Grid) bool {
	for i, t := range g.T {
		if !table.Rising(t) || !slices.Equal(t.X, g.T[0].X) {
			return false
		}
		for j := range t.Y {
			if i > 0 && t.Y[j] < g.T[i-1].Y[j] {
				return false
			}
		}
	}
	return true
}

// P3.1: grids that may be: 1, 2 and 8 places, 0 and 2^20, tables of different places, tables that fall.
func TestCheckOK(t *testing.T) {
	for _, g := range grids() {
		if e := Check(g); e != api.OK {
			t.Errorf("%v: %v", g, e)
		}
	}
}

// P3.1, P3.2: grids that may not be are told so; they rise nowhere, and have 0 everywhere.
func TestBad(t *testing.T) {
	for name, g := range bad() {
		if e := Check(g); e != api.ErrGrid {
			t.Errorf("%s: %v", name, e)
		}
		if Rising(g) {
			t.Errorf("%s: rising", name)
		}
		places := append(outsiders(), 0, 1, 2, 3, 10, most)
		for _, z := range places {
			for _, x := range places {
				if at := At(g, z, x); at != 0 {
					t.Errorf("%s: at %d, %d it is %d", name, z, x, at)
				}
			}
			if row := Row(g, z, places); !slices.Equal(row, make([]int, len(places))) {
				t.Errorf("%s: the row at %d is %v", name, z, row)
			}
		}
		if row := Row(g, 1, nil); len(row) != 0 {
			t.Errorf("%s: a row of none is %v", name, row)
		}
	}
}

// P3.1: by hand: each cause for which a grid does not rise, alone; values that stand still do not fall, either way.
func TestRising(t *testing.T) {
	x := []int{0, 5, 10}
	row := func(y ...int) api.Table { return of(x, y) }
	for name, c := range map[string]struct {
		want bool
		t    []api.Table
	}{
		"one that rises":                    {true, []api.Table{row(0, 1, 2)}},
		"one that is flat":                  {true, []api.Table{row(3, 3, 3)}},
		"one that falls":                    {false, []api.Table{row(0, 2, 1)}},
		"two that rise":                     {true, []api.Table{row(0, 1, 2), row(1, 2, 3)}},
		"two that are the same":             {true, []api.Table{row(0, 1, 2), row(0, 1, 2)}},
		"all flat":                          {true, []api.Table{row(4, 4, 4), row(4, 4, 4), row(4, 4, 4)}},
		"the second alone falls":            {false, []api.Table{row(0, 1, 2), row(5, 9, 8)}},
		"the first alone falls":             {false, []api.Table{row(0, 2, 1), row(5, 6, 7)}},
		"the last alone falls":              {false, []api.Table{row(0, 1, 2), row(1, 2, 3), row(9, 8, 9)}},
		"less at the first place":           {false, []api.Table{row(1, 2, 3), row(0, 9, 9)}},
		"less at the middle place":          {false, []api.Table{row(1, 5, 5), row(4, 4, 9)}},
		"less at the last place":            {false, []api.Table{row(1, 2, 9), row(4, 5, 8)}},
		"less than the one ahead, no first": {false, []api.Table{row(1, 2, 3), row(4, 5, 6), row(3, 5, 6)}},
		"less from the second on":           {false, []api.Table{row(4, 5, 6), row(3, 4, 5), row(4, 5, 6)}},
		"other places":                      {false, []api.Table{row(0, 1, 2), of([]int{0, 6, 10}, []int{5, 6, 7})}},
		"another last place":                {false, []api.Table{row(0, 1, 2), of([]int{0, 5, 11}, []int{5, 6, 7})}},
		"more places":                       {false, []api.Table{row(0, 1, 2), of([]int{0, 5, 10, 15}, []int{5, 6, 7, 8})}},
		"fewer places":                      {false, []api.Table{row(0, 1, 2), of([]int{0, 5}, []int{5, 6})}},
		"other places at the end":           {false, []api.Table{row(0, 1, 2), row(1, 2, 3), of([]int{1, 5, 10}, []int{5, 6, 7})}},
		"up to the greatest":                {true, []api.Table{row(0, 0, most), row(0, most, most), row(most, most, most)}},
		"down from the greatest":            {false, []api.Table{row(most, most, most), row(most, most, most), row(most-1, most, most)}},
	} {
		g := grid([]int{2, 3, 9}[:len(c.t)], c.t...)
		if e, got := Check(g), Rising(g); e != api.OK || got != c.want {
			t.Errorf("%s: %v, %v", name, e, got)
		}
	}
}

// P3.1: against the promise's words, at grids that rise and that do not.
func TestRisingAsTold(t *testing.T) {
	rise, fall := 0, 0
	for _, g := range append(grids(), sorted()...) {
		want := wantRising(g)
		if Rising(g) != want {
			t.Errorf("%v: rising is not %v", g, want)
		}
		if want {
			rise++
		} else {
			fall++
		}
	}
	if rise < 20 || fall < 20 {
		t.Errorf("%d rise, %d fall", rise, fall)
	}
}

// sorted are the grids, each table over the places of the first one, with values that rise both ways.
func sorted() []api.Grid {
	var l []api.Grid
	for _, g := range grids() {
		out, n := api.Grid{Z: g.Z}, len(g.T[0].X)
		y := make([]int, n)
		for _, t := range g.T {
			more := slices.Sorted(slices.Values(t.Y))
			for j := range n {
				y[j] = max(y[j], more[min(j, len(more)-1)])
			}
			out.T = append(out.T, of(g.T[0].X, slices.Clone(y)))
		}
		l = append(l, out)
	}
	return l
}

// P3.2: by hand: the chapter's examples, ends, and quotients below 0.
func TestAt(t *testing.T) {
	falls := grid([]int{0, 3}, two(), one())
	gently := grid([]int{4, 11}, of([]int{0, 10}, []int{3, 13}), of([]int{0, 10}, []int{0, 0}))
	apart := grid([]int{2, 6, 7}, one(), of([]int{5, 6}, []int{9, 21}), two())
	wide := grid([]int{0, most}, of([]int{0, 1}, []int{most, 0}), of([]int{0, 1}, []int{0, most - 1}))
	for _, c := range []struct {
		g          api.Grid
		z, x, want int
	}{
		{example(), 0, 5, 50}, {example(), 5, 5, 100}, {example(), 99, 5, 150},
		{example(), -5, 5, 50}, {example(), 3, 1, 40}, {example(), 10, 5, 150}, {example(), 9, 0, 90}, {example(), 1, 10, 110}, {example(), 1, 99, 110}, {example(), 1, -9, 10},
		{example(), math.MinInt, math.MinInt, 0}, {example(), math.MinInt, math.MaxInt, 100}, {example(), math.MaxInt, math.MinInt, 100}, {example(), math.MaxInt, math.MaxInt, 200},
		{falls, -1, 0, 100}, {falls, 0, 0, 100}, {falls, 1, 0, 66}, {falls, 2, 0, 33}, {falls, 3, 0, 0}, {falls, 4, 0, 0},
		{gently, 4, 0, 3}, {gently, 5, 0, 2}, {gently, 6, 0, 2}, {gently, 7, 0, 1}, {gently, 8, 0, 1}, {gently, 9, 0, 0}, {gently, 10, 0, 0}, {gently, 11, 0, 0}, {gently, 5, 10, 11}, {gently, 10, 10, 1},
		{apart, 2, 0, 0}, {apart, 4, 0, 4}, {apart, 3, 6, 50}, {apart, 4, 6, 40}, {apart, 5, 6, 30}, {apart, 6, 6, 21}, {apart, 7, 6, 160}, {apart, 5, 10, 40},
		{wide, 1, 0, most - 1}, {wide, most - 1, 0, 1}, {wide, 1, 1, 0}, {wide, 2, 1, 1}, {wide, most, 1, most - 1}, {wide, most + 1, 1, most - 1},
		{grid([]int{5}, one()), 4, 3, 30}, {grid([]int{5}, one()), 5, 3, 30}, {grid([]int{5}, one()), 6, 3, 30}, {grid([]int{5}, one()), math.MinInt, 99, 100}, {grid([]int{5}, one()), math.MaxInt, -1, 0},
	} {
		if got := At(c.g, c.z, c.x); got != c.want {
			t.Errorf("%v at %d, %d: %d, not %d", c.g, c.z, c.x, got, c.want)
		}
	}
}

// P3.2: against the promise's words; and a row is At, one by one.
func TestAtAsTold(t *testing.T) {
	for _, g := range grids() {
		xs := along(g)
		for _, z := range near(g.Z...) {
			row := Row(g, z, xs)
			if len(row) != len(xs) {
				t.Fatalf("%v at %d: %d of %d", g, z, len(row), len(xs))
			}
			for i, x := range xs {
				if got, want := At(g, z, x), wantAt(g, z, x); got != want || row[i] != want {
					t.Errorf("%v at %d, %d: %d, in a row %d, not %d", g, z, x, got, row[i], want)
				}
			}
		}
	}
}

// P3.2: rows of no x, of one, of many, of the same again, and in the order in which they are asked for.
func TestRow(t *testing.T) {
	for _, c := range []struct{ x, want []int }{
		{nil, nil}, {[]int{}, nil}, {[]int{5}, []int{100}},
		{[]int{0, 10, 3}, []int{50, 150, 80}},
		{[]int{10, 3, 3, 0, 10}, []int{150, 80, 80, 50, 150}},
		{[]int{math.MaxInt, math.MinInt}, []int{150, 50}},
	} {
		if got := Row(example(), 5, c.x); !slices.Equal(got, c.want) {
			t.Errorf("%v: %v, not %v", c.x, got, c.want)
		}
	}
	many := make([]int, 5000)
	for i := range many {
		many[i] = i%14 - 2
	}
	for i, got := range Row(example(), 5, many) {
		if want := 50 + 10*min(max(many[i], 0), 10); got != want {
			t.Errorf("%d: %d, not %d", many[i], got, want)
		}
	}
}

// P3.3: at its places a grid has its tables; between two it is between them; behind its ends it has the nearer one.
func TestBetween(t *testing.T) {
	for _, g := range grids() {
		xs := along(g)
		for _, z := range near(g.Z...) {
			i, there := slices.BinarySearch(g.Z, z)
			a, b := g.T[max(i-1, 0)], g.T[min(i, len(g.T)-1)]
			for _, x := range xs {
				c, d, got := table.At(a, x), table.At(b, x), At(g, z, x)
				if there && got != d || got < min(c, d) || got > max(c, d) {
					t.Errorf("%v at %d, %d: %d", g, z, x, got)
				}
			}
		}
	}
}

// P3.3: a rising one rises, both ways.
func TestRisingRises(t *testing.T) {
	for _, g := range sorted() {
		if !Rising(g) {
			t.Errorf("%v does not rise", g)
		}
		zs, xs := near(g.Z...), along(g)
		var ahead []int
		for _, z := range zs {
			row := Row(g, z, xs)
			if !slices.IsSorted(row) {
				t.Errorf("%v at %d: %v", g, z, row)
			}
			for i := range ahead {
				if row[i] < ahead[i] {
					t.Errorf("%v at %d, %d: %d behind %d", g, z, xs[i], row[i], ahead[i])
				}
			}
			ahead = row
		}
	}
}

// R4: what is handed in is neither changed nor kept, its spare room included, and a row is new memory; R5: the room behind a list tells nothing.
func TestHandedIn(t *testing.T) {
	z, y, x := []int{0, 10, 3, -1}, []int{0, 100, 50}, []int{0, 10, 7, 9}
	tables := []api.Table{of(x[:2], y[:2]), two(), {}, {X: []int{1}}}
	g := grid(z[:2], tables[:2]...)
	asked := []int{0, 10, 3, 77, 88}
	first := Row(g, 5, asked[:3])
	for range 2 {
		if Check(g) != api.OK || !Rising(g) || At(g, 5, 5) != 100 || !slices.Equal(Row(g, 5, asked[:3]), []int{50, 150, 80}) {
			t.Errorf("%v", g)
		}
	}
	if !slices.Equal(z, []int{0, 10, 3, -1}) || !slices.Equal(y, []int{0, 100, 50}) || !slices.Equal(x, []int{0, 10, 7, 9}) || !slices.Equal(asked, []int{0, 10, 3, 77, 88}) || len(tables[2].X) != 0 || tables[3].X[0] != 1 {
		t.Errorf("changed: %v %v %v %v %v", z, y, x, asked, tables)
	}
	first = append(first[:0], 9, 9, 9, 9, 9)
	if asked[0] != 0 || asked[3] != 77 || first[0] != 9 || At(g, 5, 0) != 50 {
		t.Error("a row is what was handed in, or is kept")
	}
	y[0] = 60
	if At(g, 5, 0) != 80 || !slices.Equal(Row(g, 5, asked[:1]), []int{80}) {
		t.Error("an earlier grid is kept")
	}
}
