package pick

import (
	"math"
	"testing"

	"turbojet/api"
)

const (
	least = -1 << 31
	most  = 1<<31 - 1
)

// Whom a value is from, by the chapter's numbers.
const (
	fromModel = 0
	fromOne   = 1
	fromTwo   = 2
	fromBoth  = 3
)

// numbers are ones around 0, the ends of fixed numbers, and those of an int.
func numbers() []int {
	return []int{math.MinInt, math.MinInt + 1, -1 << 40, -1<<32 + 5, least - 1, least, least + 1, -1 << 30, -7, -2, -1, 0, 1, 2, 3, 10, 13, 1 << 30, most - 1, most, most + 1, 1<<32 + 5, 1 << 40, math.MaxInt - 1, math.MaxInt}
}

func fixed(n int) int { return min(max(n, least), most) }

func differ(a, b int) int { return max(a, b) - min(a, b) }

// picked is P9.1, word by word.
func picked(a, b int, goodA, goodB bool, model, near int) (int, int) {
	a, b, model, near = fixed(a), fixed(b), fixed(model), max(fixed(near), 0)
	if goodA && goodB {
		if differ(a, b) <= near {
			return int(math.Floor(float64(a+b) / 2)), fromBoth
		}
		if differ(b, model) < differ(a, model) {
			return b, fromTwo
		}
		return a, fromOne
	}
	if goodA {
		return a, fromOne
	}
	if goodB {
		return b, fromTwo
	}
	return model, fromModel
}

// pickCase is one of Pick, by hand.
type pickCase struct {
	a, b         int
	goodA, goodB bool
	model, near  int
	v, from      int
}

func tryPick(t *testing.T, cases []pickCase) {
	t.Helper()
	for _, c := range cases {
		if v, from := Pick(c.a, c.b, c.goodA, c.goodB, c.model, c.near); v != c.v || from != c.from {
			t.Errorf("Pick(%d, %d, %v, %v, %d, %d) = %d, %d, not %d, %d", c.a, c.b, c.goodA, c.goodB, c.model, c.near, v, from, c.v, c.from)
		}
	}
}

// bothCase is one of Pick with both good, by hand.
type bothCase struct{ a, b, model, near, v, from int }

func tryBoth(t *testing.T, cases []bothCase) {
	t.Helper()
	for _, c := range cases {
		tryPick(t, []pickCase{{c.a, c.b, true, true, c.model, c.near, c.v, c.from}})
	}
}

// P9.1: the chapter's numbers.
func TestNumbers(t *testing.T) {
	if api.TModel != fromModel || api.TOne != fromOne || api.TTwo != fromTwo || api.TBoth != fromBoth {
		t.Errorf("TModel is %d, TOne %d, TTwo %d, TBoth %d", api.TModel, api.TOne, api.TTwo, api.TBoth)
	}
	if api.Least != least || api.Most != most || api.Signals != 5 {
		t.Errorf("Least is %d, Most %d, Signals %d", api.Least, api.Most, api.Signals)
	}
}

// P9.1: the chapter's examples.
func TestExamples(t *testing.T) {
	tryPick(t, []pickCase{
		{10, 13, true, true, 0, 5, 11, fromBoth},
		{10, 13, true, true, 0, 2, 10, fromOne},
		{10, 13, false, true, 0, 5, 13, fromTwo},
		{10, 13, false, false, 0, 5, 0, fromModel},
	})
}

// P9.1: both good, just the first, just the second and none; near and far apart, and the same.
func TestGood(t *testing.T) {
	for _, near := range []int{0, 5} {
		tryPick(t, []pickCase{
			{10, 13, true, false, 12, near, 10, fromOne}, {10, 13, false, true, 10, near, 13, fromTwo}, {10, 13, false, false, 12, near, 12, fromModel},
			{-10, -13, true, false, -13, near, -10, fromOne}, {-10, -13, false, true, -10, near, -13, fromTwo}, {-10, -13, false, false, -99, near, -99, fromModel},
			{7, 7, true, true, 3, near, 7, fromBoth}, {7, 7, true, false, 3, near, 7, fromOne}, {7, 7, false, true, 3, near, 7, fromTwo}, {7, 7, false, false, 3, near, 3, fromModel}, {0, 0, false, false, 0, near, 0, fromModel}, {0, 0, true, true, 0, near, 0, fromBoth},
		})
	}
	tryPick(t, []pickCase{{10, 13, true, true, 10, 5, 11, fromBoth}, {10, 13, true, true, 10, 0, 10, fromOne}, {10, 13, true, true, 13, 5, 11, fromBoth}, {10, 13, true, true, 13, 0, 13, fromTwo}})
}

// P9.1: they differ by one less than near, by near and by one more, either one the greater, wherever they are; of one more the model tells.
func TestNear(t *testing.T) {
	for _, near := range []int{1, 2, 3, 10, 1000, 1 << 20, 1 << 30, most - 1, most} {
		for _, low := range []int{least, least + 1, -1 << 30, -5, -1, 0, 1, 7} {
			for _, by := range []int{near - 1, near, near + 1} {
				high := low + by
				if high > most {
					continue
				}
				if by <= near {
					middle := low + by/2
					tryBoth(t, []bothCase{{low, high, low, near, middle, fromBoth}, {high, low, low, near, middle, fromBoth}, {low, high, high, near, middle, fromBoth}, {high, low, high, near, middle, fromBoth}})
				} else {
					tryBoth(t, []bothCase{{low, high, low, near, low, fromOne}, {high, low, low, near, low, fromTwo}, {low, high, high, near, high, fromTwo}, {high, low, high, near, high, fromOne}})
				}
			}
		}
	}
}

// P9.1: near 0 and below 0 leave just what is the same, near at the ends of fixed numbers, and beyond them; two that differ by more than Most are far apart, whatever near is.
func TestNearAtItsEnds(t *testing.T) {
	for _, near := range []int{0, -1, -2, -5, -1 << 30, least, least - 1, -1 << 32, -1<<32 + 5, math.MinInt + 1, math.MinInt} {
		tryBoth(t, []bothCase{
			{5, 5, 0, near, 5, fromBoth}, {-5, -5, 9, near, -5, fromBoth}, {0, 0, 1, near, 0, fromBoth}, {most, most, 0, near, most, fromBoth}, {least, least, 0, near, least, fromBoth}, {most + 1, most, 0, near, most, fromBoth}, {math.MinInt, least, 0, near, least, fromBoth},
			{5, 6, 0, near, 5, fromOne}, {6, 5, 0, near, 5, fromTwo}, {-1, 0, 3, near, 0, fromTwo}, {0, -1, 3, near, 0, fromOne}, {most, most - 1, most, near, most, fromOne}, {least, least + 1, 0, near, least + 1, fromTwo},
		})
	}
	for _, near := range []int{most, most + 1, 1 << 32, 1<<32 + 5, 1 << 40, math.MaxInt - 1, math.MaxInt} {
		tryBoth(t, []bothCase{
			{0, most, 0, near, 1<<30 - 1, fromBoth}, {most, 0, 0, near, 1<<30 - 1, fromBoth}, {-1, most - 1, 0, near, 1<<30 - 2, fromBoth}, {-1, least, 0, near, -1<<30 - 1, fromBoth}, {least, -1, 0, near, -1<<30 - 1, fromBoth}, {0, math.MaxInt, 0, near, 1<<30 - 1, fromBoth}, {math.MinInt, -1, 0, near, -1<<30 - 1, fromBoth},
			{-1, most, 0, near, -1, fromOne}, {most, -1, 0, near, -1, fromTwo}, {least, 0, 0, near, 0, fromTwo}, {0, least, 0, near, 0, fromOne}, {least, most, 0, near, most, fromTwo}, {most, least, 0, near, most, fromOne}, {least, most, -1, near, least, fromOne}, {math.MinInt, math.MaxInt, 0, near, most, fromTwo}, {math.MaxInt, math.MinInt, -1, near, least, fromTwo},
		})
	}
}

// P9.1: the mean of two whose sum is even and odd, above 0 and below 0, and of the ends of fixed numbers, either one first.
func TestMean(t *testing.T) {
	for _, c := range []struct{ a, b, mean int }{
		{10, 14, 12}, {10, 13, 11}, {10, 11, 10}, {0, 1, 0}, {1, 2, 1}, {0, 2, 1}, {1, 3, 2}, {0, 3, 1},
		{-1, 0, -1}, {-2, 0, -1}, {-3, 0, -2}, {-1, -2, -2}, {-1, -3, -2}, {-10, -13, -12}, {-10, -14, -12}, {-10, -11, -11},
		{-1, 1, 0}, {-1, 2, 0}, {-2, 1, -1}, {-5, 4, -1}, {-4, 5, 0}, {-5, 3, -1}, {-3, 5, 1}, {-7, 7, 0},
		{most, most, most}, {most - 1, most, most - 1}, {most - 2, most, most - 1}, {0, most, 1<<30 - 1}, {1, most, 1 << 30}, {1 << 30, most, 1<<30 + 1<<29 - 1},
		{least, least, least}, {least, least + 1, least}, {least, least + 2, least + 1}, {-1, least, -1<<30 - 1}, {-2, least, -1<<30 - 1}, {-3, least, -1<<30 - 2}, {-1 << 30, least, -1<<30 - 1<<29},
		{1 << 40, most - 1, most - 1}, {math.MaxInt, 1, 1 << 30}, {math.MaxInt, math.MaxInt, most}, {math.MinInt, least + 1, least}, {math.MinInt, -1, -1<<30 - 1}, {math.MinInt, math.MinInt, least},
	} {
		tryBoth(t, []bothCase{{c.a, c.b, 0, most, c.mean, fromBoth}, {c.b, c.a, 0, most, c.mean, fromBoth}, {c.a, c.b, math.MinInt, most, c.mean, fromBoth}, {c.b, c.a, math.MaxInt, most, c.mean, fromBoth}})
	}
}

// P9.1: two that are far apart: the first nearer to the model, the second, and both alike; the model below both, at each, between them and above both.
func TestFarApart(t *testing.T) {
	tryBoth(t, []bothCase{
		{10, 14, -3, 2, 10, fromOne}, {10, 14, 9, 2, 10, fromOne}, {10, 14, 10, 2, 10, fromOne}, {10, 14, 11, 2, 10, fromOne}, {10, 14, 12, 2, 10, fromOne}, {10, 14, 13, 2, 14, fromTwo}, {10, 14, 14, 2, 14, fromTwo}, {10, 14, 15, 2, 14, fromTwo}, {10, 14, 99, 2, 14, fromTwo},
		{14, 10, -3, 2, 10, fromTwo}, {14, 10, 9, 2, 10, fromTwo}, {14, 10, 10, 2, 10, fromTwo}, {14, 10, 11, 2, 10, fromTwo}, {14, 10, 12, 2, 14, fromOne}, {14, 10, 13, 2, 14, fromOne}, {14, 10, 14, 2, 14, fromOne}, {14, 10, 15, 2, 14, fromOne}, {14, 10, 99, 2, 14, fromOne},
		{10, 13, 11, 2, 10, fromOne}, {10, 13, 12, 2, 13, fromTwo}, {13, 10, 11, 2, 10, fromTwo}, {13, 10, 12, 2, 13, fromOne},
		{-10, -14, -99, 3, -14, fromTwo}, {-10, -14, -13, 3, -14, fromTwo}, {-10, -14, -12, 3, -10, fromOne}, {-14, -10, -12, 3, -14, fromOne}, {-10, -14, -11, 3, -10, fromOne}, {-10, -14, 0, 3, -10, fromOne}, {-10, -14, 99, 3, -10, fromOne},
		{-5, 5, 0, 3, -5, fromOne}, {5, -5, 0, 3, 5, fromOne}, {-5, 5, 1, 3, 5, fromTwo}, {-5, 5, -1, 3, -5, fromOne}, {5, -5, 1, 3, 5, fromOne}, {5, -5, -1, 3, -5, fromTwo}, {-5, 4, 0, 3, 4, fromTwo}, {-4, 5, 0, 3, -4, fromOne},
	})
}

// P9.1: two that are far apart, at the ends of fixed numbers and beyond them: differences of more than Most are told apart too, and of numbers beyond the ends those at the ends are taken.
func TestFarApartAtTheEnds(t *testing.T) {
	tryBoth(t, []bothCase{
		{most, most - 1, least, 0, most - 1, fromTwo}, {most - 1, most, least, 0, most - 1, fromOne}, {least, least + 1, most, 0, least + 1, fromTwo}, {least + 1, least, most, 0, least + 1, fromOne}, {5, 9, least, 0, 5, fromOne}, {9, 5, least, 0, 5, fromTwo}, {-5, -9, most, 0, -5, fromOne}, {-9, -5, most, 0, -5, fromTwo},
		{least, most, -1, 0, least, fromOne}, {least, most, 0, 0, most, fromTwo}, {most, least, -1, 0, least, fromTwo}, {most, least, 0, 0, most, fromOne}, {least, most, least, 0, least, fromOne}, {least, most, most, 0, most, fromTwo}, {-most, most, 0, 0, -most, fromOne}, {most, -most, 0, 0, most, fromOne},
		{most + 1, 0, 1 << 30, 0, most, fromOne}, {0, most + 1, 1 << 30, 0, most, fromTwo}, {1 << 40, 0, 1 << 30, 0, most, fromOne}, {0, math.MaxInt, 1<<30 - 1, 0, 0, fromOne}, {math.MinInt, 0, -1 << 30, 0, least, fromOne}, {0, math.MinInt, -1 << 30, 0, 0, fromOne}, {0, math.MinInt, -1<<30 - 1, 0, least, fromTwo},
		{math.MinInt, math.MaxInt, -1, 0, least, fromOne}, {math.MinInt, math.MaxInt, 0, 0, most, fromTwo}, {10, 20, math.MinInt, 5, 10, fromOne}, {10, 20, math.MaxInt, 5, 20, fromTwo}, {20, 10, math.MinInt, 5, 10, fromTwo}, {20, 10, math.MaxInt, 5, 20, fromOne}, {most, 7, math.MaxInt, 0, most, fromOne}, {7, least, math.MinInt, 0, least, fromTwo},
		{1<<32 + 5, 6, 5, 0, 6, fromTwo}, {6, 1<<32 + 5, 5, 0, 6, fromOne}, {-1<<32 + 5, 6, 5, 0, 6, fromTwo}, {5, 9, 1<<32 + 5, 0, 9, fromTwo}, {9, 5, -1<<32 + 9, 0, 5, fromTwo}, {5, 9, 5, 1<<32 + 2, 7, fromBoth},
	})
}

// P9.1: each of what is handed in at and beyond the ends of fixed numbers, good and not good: what is taken is fixed.
func TestFixed(t *testing.T) {
	for _, c := range []struct{ n, fixed int }{
		{math.MinInt, least}, {math.MinInt + 1, least}, {-1<<32 + 5, least}, {least - 1, least}, {least, least}, {least + 1, least + 1}, {-1, -1}, {0, 0}, {1, 1}, {most - 1, most - 1}, {most, most}, {most + 1, most}, {1<<32 + 5, most}, {math.MaxInt - 1, most}, {math.MaxInt, most},
	} {
		for _, other := range numbers() {
			tryPick(t, []pickCase{
				{c.n, other, true, false, 7, 0, c.fixed, fromOne}, {c.n, other, true, false, other, other, c.fixed, fromOne}, {c.n, 7, true, false, other, most, c.fixed, fromOne},
				{other, c.n, false, true, 7, 0, c.fixed, fromTwo}, {other, c.n, false, true, other, other, c.fixed, fromTwo}, {7, c.n, false, true, other, most, c.fixed, fromTwo},
				{other, 7, false, false, c.n, 0, c.fixed, fromModel}, {7, other, false, false, c.n, other, c.fixed, fromModel}, {other, other, false, false, c.n, most, c.fixed, fromModel},
				{c.n, c.n, true, true, other, other, c.fixed, fromBoth}, {c.n, c.n, false, false, c.n, other, c.fixed, fromModel},
			})
		}
	}
}

// each calls what it is given with all pairs of numbers, models and nears.
func each(do func(a, b, model, near int)) {
	for _, a := range numbers() {
		for _, b := range numbers() {
			for _, model := range numbers() {
				for _, near := range numbers() {
					do(a, b, model, near)
				}
			}
		}
	}
}

// P9.1: all edges together, against what the promise says.
func TestAgainstThePromise(t *testing.T) {
	each(func(a, b, model, near int) {
		for good := range 4 {
			goodA, goodB := good&1 != 0, good&2 != 0
			v, from := Pick(a, b, goodA, goodB, model, near)
			if wantV, wantFrom := picked(a, b, goodA, goodB, model, near); v != wantV || from != wantFrom {
				t.Fatalf("Pick(%d, %d, %v, %v, %d, %d) = %d, %d, not %d, %d", a, b, goodA, goodB, model, near, v, from, wantV, wantFrom)
			}
		}
	})
}

// P9.1: all small numbers, against what the promise says.
func TestSmallNumbers(t *testing.T) {
	for a := -8; a <= 8; a++ {
		for b := -8; b <= 8; b++ {
			for model := -10; model <= 10; model++ {
				for near := -2; near <= 18; near++ {
					v, from := Pick(a, b, true, true, model, near)
					if wantV, wantFrom := picked(a, b, true, true, model, near); v != wantV || from != wantFrom {
						t.Fatalf("Pick(%d, %d, true, true, %d, %d) = %d, %d, not %d, %d", a, b, model, near, v, from, wantV, wantFrom)
					}
				}
			}
		}
	}
}

// P9.3: of two good values what is taken is between them, and one of them, if it is not from both.
func TestBetween(t *testing.T) {
	from := [4]int{}
	each(func(a, b, model, near int) {
		v, whom := Pick(a, b, true, true, model, near)
		if v < min(fixed(a), fixed(b)) || v > max(fixed(a), fixed(b)) {
			t.Fatalf("Pick(%d, %d, true, true, %d, %d) = %d, %d", a, b, model, near, v, whom)
		}
		if whom == fromModel || whom == fromOne && v != fixed(a) || whom == fromTwo && v != fixed(b) {
			t.Fatalf("Pick(%d, %d, true, true, %d, %d) = %d, %d", a, b, model, near, v, whom)
		}
		from[whom]++
	})
	if from[fromOne] < 1000 || from[fromTwo] < 1000 || from[fromBoth] < 1000 {
		t.Errorf("whom they are from: %v: too seldom to tell", from)
	}
}

// P9.3: what is not good does not matter; nor do the model and near, where one is good alone, nor near, where none is.
func TestNotGood(t *testing.T) {
	each(func(x, y, model, near int) {
		tryPick(t, []pickCase{
			{13, x, true, false, model, near, 13, fromOne}, {x, 13, false, true, model, near, 13, fromTwo}, {x, y, false, false, 13, near, 13, fromModel},
		})
		if t.Failed() {
			t.FailNow()
		}
	})
}

// P9.3: turned about, only whom it is from is turned, unless both differ from the model alike: then it is the first one, either way.
func TestTurned(t *testing.T) {
	turned := [4]int{fromModel, fromTwo, fromOne, fromBoth}
	alike := 0
	each(func(a, b, model, near int) {
		for good := range 4 {
			goodA, goodB := good&1 != 0, good&2 != 0
			v, from := Pick(a, b, goodA, goodB, model, near)
			back, whom := Pick(b, a, goodB, goodA, model, near)
			same := differ(fixed(a), fixed(model)) == differ(fixed(b), fixed(model))
			if good == 3 && same && from != fromBoth {
				alike++
				if v != fixed(a) || back != fixed(b) || from != fromOne || whom != fromOne {
					t.Fatalf("of %d, %d, %d, %d: %d, %d, and turned %d, %d", a, b, model, near, v, from, back, whom)
				}
				continue
			}
			if back != v || whom != turned[from] {
				t.Fatalf("of %d, %d, %v, %v, %d, %d: %d, %d, and turned %d, %d", a, b, goodA, goodB, model, near, v, from, back, whom)
			}
		}
	})
	if alike < 100 {
		t.Errorf("both differ alike %d times: too seldom to tell", alike)
	}
}

// P9.2: other numbers and other goods for each signal, by hand: each of its answers stands at its own signal.
func TestAll(t *testing.T) {
	type ints = [api.Signals]int
	type bools = [api.Signals]bool
	for _, c := range []struct {
		a, b         ints
		goodA, goodB bools
		model, near  ints
		v, from      ints
	}{
		{},
		{ints{10, 20, 30, 40, 50}, ints{13, 28, 37, 46, 55}, bools{true, true, false, true, false}, bools{true, true, true, false, false}, ints{1, 29, 3, 4, 5}, ints{5, 7, 9, 1, 2}, ints{11, 28, 37, 40, 5}, ints{3, 2, 2, 1, 0}},
		{ints{10, 20, 30, 40, 50}, ints{13, 28, 37, 46, 55}, bools{false, true, true, true, true}, bools{false, false, true, true, true}, ints{1, 29, 3, 4, 99}, ints{5, 7, 7, 5, 4}, ints{1, 20, 33, 40, 55}, ints{0, 1, 3, 1, 2}},
		{ints{10, 20, 30, 40, 50}, ints{13, 28, 37, 46, 55}, bools{false, false, false, false, false}, bools{true, true, true, true, true}, ints{1, 2, 3, 4, 5}, ints{99, 99, 99, 99, 99}, ints{13, 28, 37, 46, 55}, ints{2, 2, 2, 2, 2}},
		{ints{math.MinInt, math.MaxInt, -1, 0, 7}, ints{0, 0, -2, most + 1, -8}, bools{true, true, true, true, true}, bools{true, true, true, true, true}, ints{0, math.MaxInt, 0, 0, 0}, ints{math.MaxInt, most, 1, math.MinInt, 14}, ints{0, 1<<30 - 1, -2, 0, 7}, ints{2, 3, 3, 1, 1}},
	} {
		if v, from := All(c.a, c.b, c.goodA, c.goodB, c.model, c.near); v != c.v || from != c.from {
			t.Errorf("All(%v, %v, %v, %v, %v, %v) = %v, %v, not %v, %v", c.a, c.b, c.goodA, c.goodB, c.model, c.near, v, from, c.v, c.from)
		}
	}
}

// scattered are arrays of numbers, that a short rule scatters over those that are given.
func scattered(k int, over []int) [api.Signals]int {
	var all [api.Signals]int
	for i := range all {
		all[i] = over[(k*7+i*i*11+k/31*i+i*5)%len(over)]
	}
	return all
}

func scatteredGoods(k int) [api.Signals]bool {
	var all [api.Signals]bool
	for i := range all {
		all[i] = k>>i&1 != 0
	}
	return all
}

// P9.2 (and R4, R5): signal by signal the same as Pick; what is handed in is as it was behind the call, and a call ahead changes nothing.
func TestAllAsPick(t *testing.T) {
	small := []int{-9, -5, -2, -1, 0, 1, 2, 3, 6, 8, 11}
	seen := [api.Signals][4]int{}
	for k := range 20000 {
		over := numbers()
		if k%2 == 0 {
			over = small
		}
		a, b, model, near := scattered(k, over), scattered(k*3+1, over), scattered(k*5+2, over), scattered(k*13+4, over)
		goodA, goodB := scatteredGoods(k/2%32), scatteredGoods(k/64%32)
		wasA, wasB, wasModel, wasNear, wasGoodA, wasGoodB := a, b, model, near, goodA, goodB
		v, from := All(a, b, goodA, goodB, model, near)
		for i := range api.Signals {
			if wantV, wantFrom := Pick(a[i], b[i], goodA[i], goodB[i], model[i], near[i]); v[i] != wantV || from[i] != wantFrom {
				t.Fatalf("All(%v, %v, %v, %v, %v, %v) = %v, %v: at %d not %d, %d", a, b, goodA, goodB, model, near, v, from, i, wantV, wantFrom)
			}
			seen[i][from[i]]++
		}
		if a != wasA || b != wasB || model != wasModel || near != wasNear || goodA != wasGoodA || goodB != wasGoodB {
			t.Fatalf("what was handed in became %v, %v, %v, %v, %v, %v", a, b, goodA, goodB, model, near)
		}
		All(b, a, goodB, goodA, near, model)
		if again, whom := All(a, b, goodA, goodB, model, near); again != v || whom != from {
			t.Fatalf("All(%v, %v, %v, %v, %v, %v) = %v, %v, then %v, %v", a, b, goodA, goodB, model, near, v, from, again, whom)
		}
	}
	for i, many := range seen {
		for from, n := range many {
			if n < 100 {
				t.Errorf("the signal %d is from %d %d times: too seldom to tell", i, from, n)
			}
		}
	}
}
