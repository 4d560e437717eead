package fix

import (
	"math"
	"math/big"
	"slices"
	"testing"

	"turbojet/api"
)

const (
	least = -1 << 31
	most  = 1<<31 - 1
)

// samples are numbers around all edges: 0, the fixed numbers' ends, numbers outside of them, and an int's ends.
func samples() []int {
	l := []int{math.MinInt, math.MinInt + 1, math.MaxInt - 1, math.MaxInt}
	for _, edge := range []int{0, least, most, 1 << 15, -1 << 15, 1 << 20, 1 << 30, -1 << 30, 1 << 32, -1 << 32, 1 << 40, -1 << 40, 1 << 62, -1 << 62} {
		l = append(l, edge-1, edge, edge+1)
	}
	return append(l, 2, 3, 5, 7, -2, -3, -5, -7, 46340, 46341, -46341, 12345, -98765)
}

// bigSat is P1.1's Sat, of a number of any size.
func bigSat(x *big.Int) *big.Int {
	if x.Cmp(big.NewInt(least)) < 0 {
		return big.NewInt(least)
	}
	if x.Cmp(big.NewInt(most)) > 0 {
		return big.NewInt(most)
	}
	return x
}

func fixed(x int) *big.Int { return bigSat(big.NewInt(int64(x))) }

func number(x *big.Int) int { return int(x.Int64()) }

// P1.1: the ends, their neighbours, and numbers outside of them.
func TestSat(t *testing.T) {
	for _, c := range []struct{ x, want int }{
		{0, 0}, {5, 5}, {-5, -5},
		{most - 1, most - 1}, {most, most}, {most + 1, most}, {1 << 40, most}, {math.MaxInt, most},
		{least + 1, least + 1}, {least, least}, {least - 1, least}, {-1 << 40, least}, {math.MinInt, least},
	} {
		if got := Sat(c.x); got != c.want {
			t.Errorf("Sat(%d) = %d, not %d", c.x, got, c.want)
		}
	}
	if api.Least != least || api.Most != most {
		t.Errorf("the ends are %d and %d", api.Least, api.Most)
	}
}

// P1.1: all other calls reckon with Sat of each number.
func TestCallsReckonWithSat(t *testing.T) {
	for _, a := range samples() {
		for _, b := range samples() {
			x, y := Sat(a), Sat(b)
			q, e := Div(a, b)
			r, f := Div(x, y)
			if Add(a, b) != Add(x, y) || Sub(a, b) != Sub(x, y) || Mul(a, b, 7) != Mul(x, y, 7) || q != r || e != f || Sum(a, b) != Sum(x, y) {
				t.Errorf("of %d and %d", a, b)
			}
			for _, c := range samples() {
				z := Sat(c)
				if Clamp(a, b, c) != Clamp(x, y, z) || Slew(a, b, c) != Slew(x, y, z) {
					t.Fatalf("of %d, %d and %d", a, b, c)
				}
			}
		}
	}
}

// P1.2: sums and differences, by hand.
func TestAddSub(t *testing.T) {
	for _, c := range []struct{ a, b, sum, difference int }{
		{2, 3, 5, -1}, {-2, 3, 1, -5}, {0, 0, 0, 0},
		{most, 1, most, most - 1}, {most, 0, most, most}, {most - 1, 1, most, most - 2}, {most, most, most, 0},
		{least, -1, least, least + 1}, {least, 1, least + 1, least}, {least, least, least, 0},
		{0, least, least, most}, {-1, least, least, most}, {most, least, -1, most}, {least, most, -1, least},
		{1 << 40, -1, most - 1, most}, {-1 << 40, 1, least + 1, least}, {math.MaxInt, math.MaxInt, most, 0}, {math.MinInt, math.MinInt, least, 0},
	} {
		if got := Add(c.a, c.b); got != c.sum {
			t.Errorf("Add(%d, %d) = %d, not %d", c.a, c.b, got, c.sum)
		}
		if got := Sub(c.a, c.b); got != c.difference {
			t.Errorf("Sub(%d, %d) = %d, not %d", c.a, c.b, got, c.difference)
		}
	}
}

// P1.2: products, below 0 too, and shifts outside 0 to 62, by hand.
func TestMul(t *testing.T) {
	for _, c := range []struct{ a, b, shift, want int }{
		{6, 7, 0, 42}, {6, 7, 1, 21}, {6, 7, 2, 10}, {1 << 20, 1 << 20, 16, 1 << 24},
		{3, -1, 1, -2}, {3, 1, 1, 1}, {-3, -1, 1, 1}, {-4, 1, 1, -2}, {-1, 1, 1, -1}, {-1, 1, 62, -1}, {1, 1, 62, 0}, {-7, 5, 3, -5}, {0, -5, 3, 0},
		{most, 2, 0, most}, {most, -2, 0, least}, {least, 1, 0, least}, {least, -1, 0, most}, {1 << 30, 4, 1, most}, {1 << 30, 4, 2, 1 << 30},
		{most, most, 31, most - 1}, {most, most, 30, most}, {least, least, 31, most}, {least, least, 32, 1 << 30}, {least, most, 31, -most}, {least, most, 30, least},
		{least, least, 61, 2}, {least, least, 62, 1}, {least, least, 63, 1}, {least, least, 64, 1}, {least, least, 90, 1}, {least, least, math.MaxInt, 1}, {-1, 1, math.MaxInt, -1},
		{5, 7, -1, 35}, {5, 7, -3, 35}, {5, 7, math.MinInt, 35}, {5, -7, -64, -35},
		{math.MinInt, math.MinInt, 62, 1}, {math.MaxInt, 1, 0, most}, {math.MaxInt, -1, 0, -most},
	} {
		if got := Mul(c.a, c.b, c.shift); got != c.want {
			t.Errorf("Mul(%d, %d, %d) = %d, not %d", c.a, c.b, c.shift, got, c.want)
		}
	}
}

// P1.2: quotients, below 0 too, and a divisor 0, by hand.
func TestDiv(t *testing.T) {
	for _, c := range []struct {
		a, b, want int
		err        api.Errno
	}{
		{7, 2, 3, api.OK}, {-7, 2, -3, api.OK}, {7, -2, -3, api.OK}, {-7, -2, 3, api.OK}, {-1, 2, 0, api.OK}, {6, 3, 2, api.OK}, {0, 5, 0, api.OK}, {0, -5, 0, api.OK},
		{least, -1, most, api.OK}, {least, 1, least, api.OK}, {most, -1, -most, api.OK}, {least, least, 1, api.OK}, {most, least, 0, api.OK}, {least, most, -1, api.OK},
		{1 << 40, 1, most, api.OK}, {1 << 40, 2, most / 2, api.OK}, {1 << 40, 1 << 39, 1, api.OK}, {1, 1 << 40, 0, api.OK}, {math.MinInt, -1, most, api.OK}, {math.MinInt, math.MinInt, 1, api.OK},
		{1, 0, 0, api.ErrZero}, {0, 0, 0, api.ErrZero}, {-1, 0, 0, api.ErrZero}, {math.MaxInt, 0, 0, api.ErrZero}, {math.MinInt, 0, 0, api.ErrZero},
	} {
		if got, err := Div(c.a, c.b); got != c.want || err != c.err {
			t.Errorf("Div(%d, %d) = %d, %d, not %d, %d", c.a, c.b, got, err, c.want, c.err)
		}
	}
	if api.ErrZero != 10 {
		t.Errorf("ErrZero is %d", api.ErrZero)
	}
}

// P1.2: all four against numbers of any size.
func TestReckoningIsExact(t *testing.T) {
	shifts := []int{math.MinInt, -64, -1, 0, 1, 2, 15, 16, 30, 31, 32, 33, 61, 62, 63, 64, 65, 128, math.MaxInt}
	for _, a := range samples() {
		for _, b := range samples() {
			x, y := fixed(a), fixed(b)
			if want := number(bigSat(new(big.Int).Add(x, y))); Add(a, b) != want {
				t.Errorf("Add(%d, %d) = %d, not %d", a, b, Add(a, b), want)
			}
			if want := number(bigSat(new(big.Int).Sub(x, y))); Sub(a, b) != want {
				t.Errorf("Sub(%d, %d) = %d, not %d", a, b, Sub(a, b), want)
			}
			if b != 0 {
				want := number(bigSat(new(big.Int).Quo(x, y)))
				if got, err := Div(a, b); got != want || err != api.OK {
					t.Errorf("Div(%d, %d) = %d, %d, not %d", a, b, got, err, want)
				}
			}
			for _, shift := range shifts {
				// Euclid's quotient by a divisor above 0 is the one that is rounded down.
				power := new(big.Int).Lsh(big.NewInt(1), uint(min(max(shift, 0), 62)))
				want := number(bigSat(new(big.Int).Div(new(big.Int).Mul(x, y), power)))
				if got := Mul(a, b, shift); got != want {
					t.Errorf("Mul(%d, %d, %d) = %d, not %d", a, b, shift, got, want)
				}
			}
		}
	}
}

// P1.2: none at all, one, and more; each step saturates, so that the order tells.
func TestSum(t *testing.T) {
	for _, c := range []struct {
		l    []int
		want int
	}{
		{nil, 0}, {[]int{}, 0}, {[]int{5}, 5}, {[]int{-5}, -5}, {[]int{1, 2, 3, -10}, -4},
		{[]int{most, 5, -5}, most - 5}, {[]int{-5, most, 5}, most}, {[]int{least, -5, 5}, least + 5}, {[]int{5, least, -5}, least},
		{[]int{1 << 40}, most}, {[]int{1 << 40, -1 << 40}, -1}, {[]int{math.MinInt, math.MaxInt}, -1}, {[]int{math.MaxInt, math.MaxInt}, most},
	} {
		if got := Sum(c.l...); got != c.want {
			t.Errorf("Sum(%v) = %d, not %d", c.l, got, c.want)
		}
	}
	if Sum() != 0 {
		t.Errorf("Sum() = %d", Sum())
	}
}

// R4: a list that is handed in stays as it is, its spare room included.
func TestSumLeavesItsList(t *testing.T) {
	l := []int{1 << 40, 2, 3, 77, 78}
	Sum(l[:3]...)
	if !slices.Equal(l, []int{1 << 40, 2, 3, 77, 78}) {
		t.Errorf("it became %v", l)
	}
}

// P1.3: inside, at the ends, outside, and low above high, by hand.
func TestClamp(t *testing.T) {
	for _, c := range []struct{ x, low, high, want int }{
		{2, 1, 3, 2}, {0, 1, 3, 1}, {1, 1, 3, 1}, {3, 1, 3, 3}, {4, 1, 3, 3}, {5, 1, 3, 3}, {2, 2, 2, 2}, {9, 2, 2, 2}, {-9, 2, 2, 2}, {-5, -7, -3, -5}, {0, -7, -3, -3},
		{5, 7, 3, 7}, {9, 7, 3, 7}, {1, 7, 3, 7}, {7, 7, 3, 7}, {3, 7, 3, 7}, {3, 3, 2, 3},
		{1 << 40, 1, 3, 3}, {-1 << 40, 1, 3, 1}, {0, -1 << 40, 1 << 40, 0}, {1 << 40, -1 << 41, 1 << 41, most}, {-1 << 40, -1 << 41, 1 << 41, least},
		{0, 1 << 40, 1 << 39, most}, {0, 1 << 40, -1 << 40, most}, {0, least, least - 1, least}, {math.MaxInt, math.MinInt, math.MaxInt, most}, {5, math.MaxInt, math.MinInt, most},
	} {
		if got := Clamp(c.x, c.low, c.high); got != c.want {
			t.Errorf("Clamp(%d, %d, %d) = %d, not %d", c.x, c.low, c.high, got, c.want)
		}
	}
}

// P1.3: toward to, just there, not quite there, by below 0, and ways longer than Most, by hand.
func TestSlew(t *testing.T) {
	for _, c := range []struct{ from, to, by, want int }{
		{10, 3, 4, 6}, {10, 30, 4, 14}, {10, 12, 4, 12}, {10, 8, 4, 8}, {10, 14, 4, 14}, {10, 15, 4, 14}, {10, 6, 4, 6}, {10, 5, 4, 6}, {10, 10, 4, 10}, {-3, 3, 4, 1}, {3, -3, 4, -1},
		{10, 3, 0, 10}, {10, 30, 0, 10}, {10, 10, 0, 10}, {10, 3, -4, 10}, {10, 30, -4, 10}, {10, 11, -1, 10}, {10, 10, -1, 10}, {10, 30, math.MinInt, 10},
		{least, most, most, -1}, {most, least, most, 0}, {-1, most, most, most - 1}, {0, most, most, most}, {0, least, most, -most}, {0, least, 1 << 40, -most}, {-1, least, most, least},
		{most - 1, most, 5, most}, {least + 1, least, 5, least}, {most - 5, most, 4, most - 1}, {least + 5, least, 4, least + 1},
		{1 << 40, 0, 1, most - 1}, {-1 << 40, 0, 1, least + 1}, {0, 1 << 40, 1 << 40, most}, {math.MinInt, math.MaxInt, math.MaxInt, -1}, {math.MaxInt, math.MinInt, 0, most},
	} {
		if got := Slew(c.from, c.to, c.by); got != c.want {
			t.Errorf("Slew(%d, %d, %d) = %d, not %d", c.from, c.to, c.by, got, c.want)
		}
	}
}

// P1.4: no answer is outside Least to Most.
func TestAnswersAreFixed(t *testing.T) {
	within := func(x int) bool { return least <= x && x <= most }
	for _, a := range samples() {
		if !within(Sat(a)) {
			t.Errorf("Sat(%d)", a)
		}
		for _, b := range samples() {
			q, _ := Div(a, b)
			if !within(Add(a, b)) || !within(Sub(a, b)) || !within(q) || !within(Sum(a, b, a)) {
				t.Errorf("of %d and %d", a, b)
			}
			for _, c := range samples() {
				if !within(Mul(a, b, c)) || !within(Clamp(a, b, c)) || !within(Slew(a, b, c)) {
					t.Fatalf("of %d, %d and %d", a, b, c)
				}
			}
		}
	}
}

// P1.4: a slew's answer is between from and to, and no further from from than by.
func TestSlewNeverGoesPast(t *testing.T) {
	for _, from := range samples() {
		for _, to := range samples() {
			for _, by := range samples() {
				got, a, b := Slew(from, to, by), Sat(from), Sat(to)
				step := max(got-a, a-got)
				if got < min(a, b) || got > max(a, b) || step > max(Sat(by), 0) {
					t.Fatalf("Slew(%d, %d, %d) = %d", from, to, by, got)
				}
			}
		}
	}
}

// P1.4: slews by more than 0 get there, in as few steps as by allows, and stay.
func TestSlewGetsThere(t *testing.T) {
	for _, c := range []struct{ from, to, by int }{
		{0, 100, 1}, {100, 0, 1}, {-50, 50, 7}, {50, -50, 7}, {0, 0, 1}, {3, 4, 100},
		{least, most, most}, {most, least, most}, {least, most, 1 << 24}, {most, least, 1<<24 + 1}, {-1 << 40, 1 << 40, 1 << 28}, {most - 10, most, 3}, {least + 10, least, 3},
	} {
		way := Sat(c.to) - Sat(c.from)
		by := Sat(c.by)
		steps := (max(way, -way) + by - 1) / by
		x := c.from
		for i := range steps {
			if Sat(x) == Sat(c.to) {
				t.Errorf("%v: there behind %d steps, not %d", c, i, steps)
			}
			x = Slew(x, c.to, c.by)
		}
		if Sat(x) != Sat(c.to) || Slew(x, c.to, c.by) != Sat(c.to) {
			t.Errorf("%v: at %d behind %d steps", c, x, steps)
		}
	}
}
