package limit

import (
	"math"
	"math/big"
	"slices"
	"testing"

	"turbojet/api"
	"turbojet/schedule"
)

const (
	least    = -1 << 31
	greatest = 1<<31 - 1
	most     = 1 << 20
)

func fixed(n int) int { return min(max(n, least), greatest) }

// ends are numbers at the ends of fixed numbers, at those of an int, and around.
func ends() []int {
	return []int{math.MinInt, math.MinInt + 1, -1 << 40, -1<<32 + 80, least - 1, least, least + 1, greatest - 1, greatest, greatest + 1, 1<<32 + 80, 1 << 40, math.MaxInt - 1, math.MaxInt}
}

// atMost is a number, or Most where it is above that.
func atMost(x *big.Int) *big.Int {
	if x.Cmp(big.NewInt(greatest)) > 0 {
		return big.NewInt(greatest)
	}
	return x
}

// trimmed is P15.1, word by word, with numbers of any size.
func trimmed(value, red, margin, fuel, lean int) int {
	value, red, margin, fuel, lean = fixed(value), fixed(red), max(fixed(margin), 1), fixed(fuel), fixed(lean)
	if fuel <= lean || value <= red-margin {
		return fuel
	}
	if value >= red {
		return lean
	}
	part := new(big.Int).Mul(atMost(big.NewInt(int64(fuel-lean))), atMost(big.NewInt(int64(red-value))))
	part.Quo(part, big.NewInt(int64(margin)))
	return int(min(max(part.Add(part, big.NewInt(int64(lean))).Int64(), int64(lean)), int64(fuel)))
}

// trimCase is one of Trim, by hand.
type trimCase struct{ value, red, margin, fuel, lean, want int }

func tryTrim(t *testing.T, cases ...trimCase) {
	t.Helper()
	for _, c := range cases {
		if got := Trim(c.value, c.red, c.margin, c.fuel, c.lean); got != c.want {
			t.Errorf("Trim(%d, %d, %d, %d, %d) = %d, not %d", c.value, c.red, c.margin, c.fuel, c.lean, got, c.want)
		}
	}
}

// P15.1, P15.3: the chapter's numbers and examples.
func TestExamples(t *testing.T) {
	if api.Least != least || api.Most != greatest {
		t.Errorf("the ends are %d and %d", api.Least, api.Most)
	}
	tryTrim(t, trimCase{80, 100, 50, 500, 100, 260}, trimCase{40, 100, 50, 500, 100, 500}, trimCase{100, 100, 50, 500, 100, 100})
	if a, b := Ladder(5, 9, 7), Ladder(5, 3); a != 7 || b != 5 {
		t.Errorf("Ladder: %d, %d", a, b)
	}
}

// P15.1: a value far below red less margin, at it, one above it, between both, one below red, at red, and above it.
func TestTrimValues(t *testing.T) {
	tryTrim(t,
		trimCase{-1000, 100, 50, 500, 100, 500}, trimCase{0, 100, 50, 500, 100, 500}, trimCase{49, 100, 50, 500, 100, 500}, trimCase{50, 100, 50, 500, 100, 500},
		trimCase{51, 100, 50, 500, 100, 492}, trimCase{52, 100, 50, 500, 100, 484}, trimCase{75, 100, 50, 500, 100, 300}, trimCase{98, 100, 50, 500, 100, 116}, trimCase{99, 100, 50, 500, 100, 108},
		trimCase{100, 100, 50, 500, 100, 100}, trimCase{101, 100, 50, 500, 100, 100}, trimCase{5000, 100, 50, 500, 100, 100}, trimCase{1 << 40, 100, 50, 500, 100, 100},
	)
}

// P15.1: fuel less than lean, at lean, and one above it.
func TestTrimFuel(t *testing.T) {
	for _, value := range []int{-1000, 50, 51, 80, 99, 100, 101, 1 << 40} {
		tryTrim(t, trimCase{value, 100, 50, 90, 100, 90}, trimCase{value, 100, 50, 99, 100, 99}, trimCase{value, 100, 50, 100, 100, 100}, trimCase{value, 100, 50, -500, 100, -500}, trimCase{value, 100, 50, 0, 0, 0}, trimCase{value, 100, 50, -8, -7, -8})
	}
	tryTrim(t, trimCase{50, 100, 50, 101, 100, 101}, trimCase{51, 100, 50, 101, 100, 100}, trimCase{80, 100, 50, 101, 100, 100}, trimCase{100, 100, 50, 101, 100, 100}, trimCase{51, 100, 50, 102, 100, 101}, trimCase{75, 100, 50, 102, 100, 101}, trimCase{76, 100, 50, 102, 100, 100})
}

// P15.1: margins below 1 are 1; and the greatest ones.
func TestTrimMargin(t *testing.T) {
	for _, margin := range []int{1, 0, -1, -7, -50, least, least - 1, -1<<32 + 50, math.MinInt} {
		tryTrim(t, trimCase{-5, 100, margin, 500, 100, 500}, trimCase{50, 100, margin, 500, 100, 500}, trimCase{98, 100, margin, 500, 100, 500}, trimCase{99, 100, margin, 500, 100, 500}, trimCase{100, 100, margin, 500, 100, 100}, trimCase{101, 100, margin, 500, 100, 100})
	}
	tryTrim(t, trimCase{97, 100, 2, 500, 100, 500}, trimCase{98, 100, 2, 500, 100, 500}, trimCase{99, 100, 2, 500, 100, 300}, trimCase{100, 100, 2, 500, 100, 100})
	for _, margin := range []int{greatest, greatest + 1, 1 << 40, math.MaxInt} {
		tryTrim(t,
			trimCase{100 - greatest - 1, 100, margin, 500, 100, 500}, trimCase{100 - greatest, 100, margin, 500, 100, 500}, trimCase{100 - greatest + 1, 100, margin, 500, 100, 499},
			trimCase{-1 << 30, 100, margin, 500, 100, 300}, trimCase{0, 100, margin, 500, 100, 100}, trimCase{99, 100, margin, 500, 100, 100}, trimCase{100, 100, margin, 500, 100, 100},
			trimCase{0, greatest, margin, 500, 100, 500}, trimCase{1, greatest, margin, 500, 100, 499},
		)
	}
}

// P15.1: the part behind the point is left out of what is added to lean, and not of the answer: below 0 that is not the same.
func TestTrimLeavesOutParts(t *testing.T) {
	tryTrim(t,
		trimCase{99, 100, 3, 109, 100, 103}, trimCase{98, 100, 3, 109, 100, 106}, trimCase{99, 100, 3, 110, 100, 103}, trimCase{98, 100, 3, 110, 100, 106}, trimCase{99, 100, 3, 111, 100, 103}, trimCase{98, 100, 3, 111, 100, 107},
		trimCase{-3, 0, 7, 5, -10, -4}, trimCase{-3, 0, 7, 0, -15, -9}, trimCase{-3, 0, 7, -15, -30, -24}, trimCase{-1, 0, 7, -1, -7, -7}, trimCase{-6, 0, 7, -1, -7, -2},
	)
}

// P15.1: values, reds, fuels and leans below 0.
func TestTrimBelowZero(t *testing.T) {
	tryTrim(t,
		trimCase{-150, -100, 50, -10, -110, -10}, trimCase{-149, -100, 50, -10, -110, -12}, trimCase{-120, -100, 50, -10, -110, -70}, trimCase{-101, -100, 50, -10, -110, -108}, trimCase{-100, -100, 50, -10, -110, -110}, trimCase{-99, -100, 50, -10, -110, -110}, trimCase{100, -100, 50, -10, -110, -110},
		trimCase{-20, 10, 50, 200, -200, 40}, trimCase{-40, 10, 50, 200, -200, 200}, trimCase{10, 10, 50, 200, -200, -200}, trimCase{-120, -100, 50, -110, -10, -110},
	)
}

// P15.1: fuel less lean is above Most, and is Most; where the margin begins, fuel is left whole all the same.
func TestTrimWideFuel(t *testing.T) {
	for _, c := range []struct{ fuel, lean int }{{greatest, -1}, {greatest, least}, {0, least}, {greatest - 1, -2}, {1 << 30, least}, {math.MaxInt, math.MinInt}} {
		fuel, lean := fixed(c.fuel), fixed(c.lean)
		tryTrim(t,
			trimCase{49, 100, 50, c.fuel, c.lean, fuel}, trimCase{50, 100, 50, c.fuel, c.lean, fuel}, trimCase{51, 100, 50, c.fuel, c.lean, lean + 2104533974}, trimCase{75, 100, 50, c.fuel, c.lean, lean + 1073741823},
			trimCase{99, 100, 50, c.fuel, c.lean, lean + 42949672}, trimCase{100, 100, 50, c.fuel, c.lean, lean}, trimCase{101, 100, 50, c.fuel, c.lean, lean},
			trimCase{1, greatest, greatest, c.fuel, c.lean, lean + greatest - 1}, trimCase{least + 1, 0, greatest, c.fuel, c.lean, fuel}, trimCase{least + 2, 0, greatest, c.fuel, c.lean, lean + greatest - 1},
		)
	}
	tryTrim(t, trimCase{75, 100, 50, greatest, 0, 1073741823}, trimCase{75, 100, 50, greatest - 1, -1, 1073741822}, trimCase{75, 100, 50, greatest - 1, 0, 1073741823}, trimCase{75, 100, 50, greatest - 2, 0, 1073741822})
}

// P15.1: red less value is above Most; and fuel less lean is, too.
func TestTrimWideValue(t *testing.T) {
	for _, margin := range []int{1, 50, 1 << 30, greatest, math.MaxInt} {
		for _, c := range []struct{ value, red int }{{-1, greatest}, {least, greatest}, {least, 0}, {least, 1}, {-1 << 30, greatest}, {math.MinInt, math.MaxInt}} {
			tryTrim(t, trimCase{c.value, c.red, margin, 500, 100, 500}, trimCase{c.value, c.red, margin, greatest, least, greatest}, trimCase{c.value, c.red, margin, greatest, -1, greatest}, trimCase{c.value, c.red, margin, 90, 100, 90})
		}
	}
}

// P15.1: the product is exact, though it is beyond the fixed numbers: 2^20 by 2^19, by 2^20; and at its greatest.
func TestTrimExactProduct(t *testing.T) {
	tryTrim(t,
		trimCase{1 << 19, most, most, most, 0, 1 << 19}, trimCase{1 << 19, most, most, most + 100, 100, 1<<19 + 100}, trimCase{1 << 18, most, most, most, 0, 1<<20 - 1<<18},
		trimCase{1, greatest, greatest, greatest, 0, greatest - 1}, trimCase{1 << 30, greatest, greatest, greatest, 0, 1<<30 - 1}, trimCase{1 << 30, greatest, greatest, greatest, least, -1<<30 - 1},
	)
}

// P15.1: red less margin may be below Least: so the least value is still within a margin.
func TestTrimLeastRed(t *testing.T) {
	for _, low := range []int{least, least - 1, -1 << 40, math.MinInt} {
		for _, margin := range []int{1, 50, greatest, math.MaxInt, 0, math.MinInt} {
			tryTrim(t, trimCase{low, low, margin, 500, 100, 100}, trimCase{0, low, margin, 500, 100, 100}, trimCase{low, low, margin, 90, 100, 90})
		}
		tryTrim(t, trimCase{low, least + 10, 50, 500, 100, 180}, trimCase{low, least + 49, 50, 500, 100, 492}, trimCase{low, least + 50, 50, 500, 100, 500}, trimCase{low, least + 1, 50, 500, 100, 108}, trimCase{low, least + 1, 1, 500, 100, 500})
	}
}

// P15.1: each number at the ends of an int, and of the fixed ones, and beyond: as Sat of it.
func TestTrimSat(t *testing.T) {
	for _, l := range [][5]int{{80, 100, 50, 500, 100}, {-120, -100, 50, -10, -110}, {-7, 1 << 30, greatest, greatest, least}, {0, 0, 1, 1, 0}} {
		for i := range l {
			for j := range l {
				for _, x := range ends() {
					for _, y := range ends() {
						a := l
						a[i], a[j] = x, y
						b := a
						b[i], b[j] = fixed(x), fixed(y)
						got, want := Trim(a[0], a[1], a[2], a[3], a[4]), Trim(b[0], b[1], b[2], b[3], b[4])
						if got != want || got != fixed(got) {
							t.Fatalf("Trim(%v) = %d, but of %v %d", a, got, b, want)
						}
					}
				}
			}
		}
	}
	tryTrim(t,
		trimCase{math.MinInt, 100, 50, 500, 100, 500}, trimCase{math.MaxInt, 100, 50, 500, 100, 100}, trimCase{1<<32 + 80, 100, 50, 500, 100, 100}, trimCase{-1<<32 + 80, 100, 50, 500, 100, 500},
		trimCase{80, math.MinInt, 50, 500, 100, 100}, trimCase{80, math.MaxInt, 50, 500, 100, 500}, trimCase{greatest - 20, greatest + 1, 50, 500, 100, 260}, trimCase{greatest - 20, math.MaxInt, 50, 500, 100, 260},
		trimCase{80, 100, 50, math.MaxInt, 100, 100 + 858993418}, trimCase{80, 100, 50, math.MinInt, 100, least}, trimCase{40, 100, 50, math.MaxInt, 100, greatest},
		trimCase{80, 100, 50, 500, math.MaxInt, 500}, trimCase{80, 100, 50, 500, math.MinInt, least + 858993458}, trimCase{100, 100, 50, 500, math.MinInt, least},
		trimCase{math.MaxInt, math.MaxInt, math.MaxInt, math.MaxInt, math.MinInt, least}, trimCase{math.MinInt, math.MinInt, math.MinInt, math.MinInt, math.MinInt, least}, trimCase{math.MaxInt, math.MaxInt, math.MaxInt, math.MaxInt, math.MaxInt, greatest},
	)
}

// P15.1: against the promise's words: whole, in part, and just lean are left, each often.
func TestTrimAsTold(t *testing.T) {
	numbers := []int{math.MinInt, -1<<32 + 80, least, least + 1, -1 << 30, -110, -1, 0, 7, 80, 500, most, 1 << 30, greatest - 1, greatest, 1<<32 + 80, math.MaxInt}
	whole, part, lean := 0, 0, 0
	for _, red := range numbers {
		for _, margin := range append([]int{1, 2, 3, 50}, numbers...) {
			wide := max(fixed(margin), 1)
			values := append([]int{fixed(red) - wide - 1, fixed(red) - wide, fixed(red) - wide + 1, fixed(red) - wide/2, fixed(red) - wide/3, fixed(red) - 1, fixed(red), fixed(red) + 1}, numbers...)
			for _, value := range values {
				for _, fuel := range numbers {
					for _, few := range numbers {
						got, want := Trim(value, red, margin, fuel, few), trimmed(value, red, margin, fuel, few)
						if got != want {
							t.Fatalf("Trim(%d, %d, %d, %d, %d) = %d, not %d", value, red, margin, fuel, few, got, want)
						}
						switch {
						case got == fixed(fuel):
							whole++
						case got == fixed(few):
							lean++
						default:
							part++
						}
					}
				}
			}
		}
	}
	if whole < 10000 || part < 10000 || lean < 10000 {
		t.Errorf("whole %d, in part %d, just lean %d times: too seldom to tell", whole, part, lean)
	}
}

func line(x, a, b int) api.Table { return api.Table{X: []int{0, x}, Y: []int{a, b}} }

// laws are those of chapter 14.
func laws() api.Laws {
	return api.Laws{
		Accel: line(10000, 300, 1000), Decel: line(10000, 0, 600), Start: line(10000, 220, 260),
		Red1: 9000, Red2: 11000, RedE: 1000, Margin: 50, Idle: 1800, Patience: 200,
	}
}

// withReds are laws with other reds and another margin.
func withReds(red1, red2, redE, margin int) api.Laws {
	l := laws()
	l.Red1, l.Red2, l.RedE, l.Margin = red1, red2, redE, margin
	return l
}

// manyLaws may be.
func manyLaws() []api.Laws {
	return []api.Laws{laws(), withReds(1, 1, 1, 1), withReds(most, most, most, most), withReds(most, most, most, 1), withReds(50, 60, 70, 50), withReds(70, 50, 60, 7), withReds(60, 70, 50, 49), withReds(60, 70, 50, 50)}
}

// badLaws may not be, each for one cause.
func badLaws() map[string]api.Laws {
	bad := map[string]api.Laws{"nothing": {}}
	for name, change := range map[string]func(l *api.Laws){
		"no Accel":              func(l *api.Laws) { l.Accel = api.Table{} },
		"Decel that falls":      func(l *api.Laws) { l.Decel = line(10000, 600, 0) },
		"Start of one point":    func(l *api.Laws) { l.Start = api.Table{X: []int{0}, Y: []int{220}} },
		"unequal lists":         func(l *api.Laws) { l.Accel.Y = []int{300} },
		"no margin":             func(l *api.Laws) { l.Margin = 0 },
		"a margin below 0":      func(l *api.Laws) { l.Margin = -50 },
		"the least margin":      func(l *api.Laws) { l.Margin = math.MinInt },
		"Red1 below the margin": func(l *api.Laws) { l.Red1 = 49 },
		"Red2 below the margin": func(l *api.Laws) { l.Red2 = 49 },
		"RedE below the margin": func(l *api.Laws) { l.RedE = 49 },
		"Red1 beyond":           func(l *api.Laws) { l.Red1 = most + 1 },
		"Red2 beyond":           func(l *api.Laws) { l.Red2 = math.MaxInt },
		"RedE beyond":           func(l *api.Laws) { l.RedE = most + 1 },
		"no idle":               func(l *api.Laws) { l.Idle = 0 },
		"no patience":           func(l *api.Laws) { l.Patience = 0 },
		"a patience too long":   func(l *api.Laws) { l.Patience = 10001 },
	} {
		l := laws()
		change(&l)
		bad[name] = l
	}
	return bad
}

// leastCase is one of Least, by hand.
type leastCase struct{ n1, n2, heat, fuel, lean, want, which int }

func tryLeast(t *testing.T, l api.Laws, cases ...leastCase) {
	t.Helper()
	for _, c := range cases {
		if got, which := Least(l, c.n1, c.n2, c.heat, c.fuel, c.lean); got != c.want || which != c.which {
			t.Errorf("Least(%d, %d, %d, %d, %d) = %d, %d, not %d, %d", c.n1, c.n2, c.heat, c.fuel, c.lean, got, which, c.want, c.which)
		}
	}
}

// P15.2: each of the three alone is the least, beside others that take nothing back, and beside ones that take back less.
func TestLeastAlone(t *testing.T) {
	tryLeast(t, laws(),
		leastCase{8980, 0, 0, 500, 100, 260, 1}, leastCase{8980, 10950, 950, 500, 100, 260, 1}, leastCase{8980, 10970, 960, 500, 100, 260, 1}, leastCase{8980, 10979, 979, 500, 100, 260, 1}, leastCase{9000, 10999, 999, 500, 100, 100, 1}, leastCase{math.MaxInt, 0, 0, 500, 100, 100, 1},
		leastCase{0, 10980, 0, 500, 100, 260, 2}, leastCase{8950, 10980, 950, 500, 100, 260, 2}, leastCase{8970, 10980, 960, 500, 100, 260, 2}, leastCase{8979, 10980, 979, 500, 100, 260, 2}, leastCase{8999, 11000, 999, 500, 100, 100, 2}, leastCase{0, math.MaxInt, 0, 500, 100, 100, 2},
		leastCase{0, 0, 980, 500, 100, 260, 3}, leastCase{8950, 10950, 980, 500, 100, 260, 3}, leastCase{8970, 10960, 980, 500, 100, 260, 3}, leastCase{8979, 10979, 980, 500, 100, 260, 3}, leastCase{8999, 10999, 1000, 500, 100, 100, 3}, leastCase{0, 0, math.MaxInt, 500, 100, 100, 3},
		leastCase{8980, 10990, 0, 500, 100, 180, 2}, leastCase{8990, 10980, 985, 500, 100, 180, 1}, leastCase{8951, 10950, 950, 500, 100, 492, 1}, leastCase{8950, 10951, 950, 500, 100, 492, 2}, leastCase{8950, 10950, 951, 500, 100, 492, 3},
	)
}

// P15.2: two are alike, or all three: the first one that is it.
func TestLeastAlike(t *testing.T) {
	tryLeast(t, laws(),
		leastCase{8980, 10980, 960, 500, 100, 260, 1}, leastCase{8980, 10960, 980, 500, 100, 260, 1}, leastCase{8960, 10980, 980, 500, 100, 260, 2}, leastCase{8980, 10980, 980, 500, 100, 260, 1},
		leastCase{9000, 11000, 0, 500, 100, 100, 1}, leastCase{9500, 0, 1000, 500, 100, 100, 1}, leastCase{0, 11000, 5000, 500, 100, 100, 2}, leastCase{9000, 11001, 1 << 40, 500, 100, 100, 1},
		leastCase{8960, 10960, 980, 500, 100, 260, 3}, leastCase{8960, 10980, 960, 500, 100, 260, 2}, leastCase{8980, 10960, 960, 500, 100, 260, 1},
	)
}

// P15.2: none takes anything back: 0.
func TestLeastNone(t *testing.T) {
	tryLeast(t, laws(),
		leastCase{0, 0, 0, 500, 100, 500, 0}, leastCase{8950, 10950, 950, 500, 100, 500, 0}, leastCase{-7, -7, -7, 500, 100, 500, 0}, leastCase{math.MinInt, math.MinInt, math.MinInt, 500, 100, 500, 0}, leastCase{-1<<32 + 8980, -1<<32 + 10980, -1<<32 + 980, 500, 100, 500, 0},
	)
	for _, n := range []int{0, 8950, 8951, 8980, 9000, 20000, 1 << 40} {
		tryLeast(t, laws(), leastCase{n, n, n, 90, 100, 90, 0}, leastCase{n, n, n, 99, 100, 99, 0}, leastCase{n, n, n, 100, 100, 100, 0}, leastCase{n, n, n, -500, 100, -500, 0}, leastCase{n, n, n, 0, 0, 0, 0}, leastCase{n, n, n, -1 << 40, 100, least, 0}, leastCase{n, n, n, 500, 1 << 40, 500, 0}, leastCase{n, n, n, 1 << 40, math.MaxInt, greatest, 0}, leastCase{n, n, n, math.MinInt, -1 << 40, least, 0})
	}
	tryLeast(t, laws(), leastCase{8950, 0, 0, 101, 100, 101, 0}, leastCase{8951, 0, 0, 101, 100, 100, 1}, leastCase{9000, 0, 0, 101, 100, 100, 1})
}

// P15.2: fuel and lean beyond the fixed numbers: less is said of Sat of the fuel.
func TestLeastBeyond(t *testing.T) {
	for _, fuel := range []int{greatest, greatest + 1, 1 << 40, 1<<32 + 500, math.MaxInt} {
		tryLeast(t, laws(), leastCase{0, 0, 0, fuel, 100, greatest, 0}, leastCase{8950, 10950, 950, fuel, 100, greatest, 0}, leastCase{0, 10980, 0, fuel, 100, 100 + 858993418, 2}, leastCase{0, 0, 1000, fuel, 100, 100, 3}, leastCase{9000, 0, 0, fuel, greatest - 1, greatest - 1, 1})
	}
	for _, fuel := range []int{least, least - 1, -1 << 40, -1<<32 + 500, math.MinInt} {
		tryLeast(t, laws(), leastCase{0, 0, 0, fuel, 100, least, 0}, leastCase{9000, 11000, 1000, fuel, 100, least, 0}, leastCase{9000, 11000, 1000, fuel, fuel, least, 0}, leastCase{9000, 11000, 1000, least + 1, fuel, least, 1}, leastCase{0, 0, 980, 500, fuel, least + 858993458, 3}, leastCase{0, 11000, 1000, math.MaxInt, fuel, least, 2})
	}
	tryLeast(t, laws(), leastCase{8970, 10980, 0, -10, -110, -70, 2}, leastCase{8950, 0, 0, -10, -110, -10, 0}, leastCase{0, 0, 2000, -10, -110, -110, 3})
}

// P15.2: each value goes with its own red, and all with the laws' margin, whatever they are.
func TestLeastOtherLaws(t *testing.T) {
	tryLeast(t, withReds(50, 60, 70, 50), leastCase{0, 0, 0, 500, 100, 500, 0}, leastCase{1, 0, 0, 500, 100, 492, 1}, leastCase{0, 11, 0, 500, 100, 492, 2}, leastCase{0, 0, 21, 500, 100, 492, 3}, leastCase{25, 35, 45, 500, 100, 300, 1}, leastCase{10, 30, 30, 500, 100, 340, 2}, leastCase{10, 10, 50, 500, 100, 260, 3})
	tryLeast(t, withReds(70, 50, 60, 7), leastCase{63, 43, 53, 500, 100, 500, 0}, leastCase{64, 43, 53, 500, 100, 442, 1}, leastCase{63, 44, 53, 500, 100, 442, 2}, leastCase{63, 43, 54, 500, 100, 442, 3})
	tryLeast(t, withReds(1, 1, 1, 1), leastCase{0, 0, 0, 500, 100, 500, 0}, leastCase{1, 0, 0, 500, 100, 100, 1}, leastCase{0, 1, 0, 500, 100, 100, 2}, leastCase{0, 0, 1, 500, 100, 100, 3})
	tryLeast(t, withReds(most, most, most, most), leastCase{0, 0, 0, most, 0, most, 0}, leastCase{-5, 1, -5, most, 0, most - 1, 2}, leastCase{1 << 19, 0, 1 << 18, most, 0, 1 << 19, 1}, leastCase{0, 0, most, most, 0, 0, 3})
}

// P15.2: of laws that may not be: 0, 0, whatever the rest is.
func TestLeastBad(t *testing.T) {
	for name, l := range badLaws() {
		if schedule.Check(l) != api.ErrLaws {
			t.Errorf("%s: they may be", name)
		}
		for _, n := range []int{math.MinInt, 0, 980, 8980, 10980, math.MaxInt} {
			for _, fuel := range []int{math.MinInt, -10, 0, 90, 100, 500, math.MaxInt} {
				if got, which := Least(l, n, n, n, fuel, 100); got != 0 || which != 0 {
					t.Fatalf("%s: Least(%d, .., %d) = %d, %d", name, n, fuel, got, which)
				}
			}
		}
	}
}

// leastOf is P15.2, word by word.
func leastOf(l api.Laws, n1, n2, heat, fuel, lean int) (int, int) {
	a, b, c := trimmed(n1, l.Red1, l.Margin, fuel, lean), trimmed(n2, l.Red2, l.Margin, fuel, lean), trimmed(heat, l.RedE, l.Margin, fuel, lean)
	few := min(a, b, c)
	switch {
	case few >= fixed(fuel):
		return few, 0
	case a == few:
		return few, 1
	case b == few:
		return few, 2
	}
	return few, 3
}

// around are values below a margin, at its ends, in it, and above red.
func around(red, margin int) []int {
	return []int{math.MinInt, red - margin, red - margin + 1, red - margin/2, red - margin/3, red - 1, red, math.MaxInt}
}

// P15.2: against the promise's words: each of them is told, often.
func TestLeastAsTold(t *testing.T) {
	var often [4]int
	for _, l := range manyLaws() {
		if schedule.Check(l) != api.OK {
			t.Fatalf("%v may not be", l)
		}
		for _, n1 := range around(l.Red1, l.Margin) {
			for _, n2 := range around(l.Red2, l.Margin) {
				for _, heat := range around(l.RedE, l.Margin) {
					for _, c := range [][2]int{{500, 100}, {101, 100}, {100, 100}, {90, 100}, {-10, -110}, {most, 0}, {math.MaxInt, math.MinInt}, {1 << 40, 100}, {500, -1 << 40}} {
						got, which := Least(l, n1, n2, heat, c[0], c[1])
						want, one := leastOf(l, n1, n2, heat, c[0], c[1])
						if got != want || which != one {
							t.Fatalf("%v: Least(%d, %d, %d, %d, %d) = %d, %d, not %d, %d", l, n1, n2, heat, c[0], c[1], got, which, want, one)
						}
						often[which]++
					}
				}
			}
		}
	}
	if slices.Min(often[:]) < 1000 {
		t.Errorf("%v times none, 1, 2, 3: too seldom to tell", often)
	}
}

// ladderCase is one of Ladder, by hand.
type ladderCase struct {
	floor int
	l     []int
	want  int
}

func tryLadder(t *testing.T, cases ...ladderCase) {
	t.Helper()
	for _, c := range cases {
		if got := Ladder(c.floor, c.l...); got != c.want {
			t.Errorf("Ladder(%d, %v) = %d, not %d", c.floor, c.l, got, c.want)
		}
	}
}

// P15.3: of none: Most, whatever the floor is.
func TestLadderOfNone(t *testing.T) {
	for _, floor := range append(ends(), -7, 0, 5) {
		tryLadder(t, ladderCase{floor, nil, greatest}, ladderCase{floor, []int{}, greatest}, ladderCase{floor, make([]int, 0, 3), greatest})
		if got := Ladder(floor); got != greatest {
			t.Errorf("Ladder(%d) = %d", floor, got)
		}
	}
}

// P15.3: of one, and of several, with the least at each place; a floor below, at, and above the least.
func TestLadder(t *testing.T) {
	tryLadder(t,
		ladderCase{5, []int{3}, 5}, ladderCase{5, []int{4}, 5}, ladderCase{5, []int{5}, 5}, ladderCase{5, []int{6}, 6}, ladderCase{-5, []int{-6}, -5}, ladderCase{-5, []int{-5}, -5}, ladderCase{-5, []int{-4}, -4}, ladderCase{0, []int{-1}, 0}, ladderCase{0, []int{1}, 1}, ladderCase{-1, []int{0}, 0},
		ladderCase{5, []int{7, 9, 8}, 7}, ladderCase{5, []int{9, 7, 8}, 7}, ladderCase{5, []int{9, 8, 7}, 7}, ladderCase{7, []int{9, 7, 8}, 7}, ladderCase{8, []int{9, 7, 8}, 8}, ladderCase{20, []int{9, 7, 8}, 20}, ladderCase{6, []int{9, 7, 8}, 7},
		ladderCase{-50, []int{-9, -7, -8, -9}, -9}, ladderCase{-8, []int{-9, -7, -8}, -8}, ladderCase{5, []int{7, 7, 7}, 7}, ladderCase{5, []int{7, 7, 3}, 5},
	)
	for place := range 40 {
		l := make([]int, 40)
		for i := range l {
			l[i] = 100 + (i*7)%40
		}
		l[place] = 50
		tryLadder(t, ladderCase{-5, l, 50}, ladderCase{49, l, 50}, ladderCase{50, l, 50}, ladderCase{51, l, 51}, ladderCase{500, l, 500})
	}
}

// P15.3: numbers beyond the fixed ones: Sat of each.
func TestLadderBeyond(t *testing.T) {
	tryLadder(t,
		ladderCase{5, []int{greatest}, greatest}, ladderCase{5, []int{greatest + 1}, greatest}, ladderCase{5, []int{1<<32 + 80}, greatest}, ladderCase{5, []int{math.MaxInt, math.MaxInt}, greatest}, ladderCase{5, []int{math.MaxInt, 7}, 7}, ladderCase{5, []int{math.MinInt, 7}, 5},
		ladderCase{math.MaxInt, []int{7}, greatest}, ladderCase{greatest + 1, []int{math.MaxInt}, greatest}, ladderCase{1<<32 + 80, []int{7}, greatest}, ladderCase{-1<<32 + 80, []int{7}, 7}, ladderCase{math.MinInt, []int{7}, 7},
		ladderCase{math.MinInt, []int{math.MinInt}, least}, ladderCase{least, []int{least}, least}, ladderCase{least - 1, []int{least + 1, least - 1}, least}, ladderCase{-1 << 40, []int{-1 << 39}, least}, ladderCase{math.MinInt, []int{-1<<32 + 80, 7}, least}, ladderCase{least + 1, []int{math.MinInt}, least + 1},
	)
	for _, floor := range append(ends(), 0) {
		for _, a := range append(ends(), 7) {
			for _, b := range append(ends(), 9) {
				tryLadder(t, ladderCase{floor, []int{a, b}, max(fixed(floor), min(fixed(a), fixed(b)))})
			}
		}
	}
}

// row is a whole row of values around a margin, with those far away at both ends.
func row(red, margin int) []int {
	l := ends()
	for v := red - margin - 20; v <= red+20; v++ {
		l = append(l, v)
	}
	slices.Sort(l)
	return l
}

// P15.4: over whole rows of values: nothing is taken back below a margin; at the greatest value, or above, just lean is left; and a greater value leaves no more.
func TestRows(t *testing.T) {
	for _, c := range []struct{ red, margin int }{{100, 50}, {100, 1}, {0, 7}, {-100, 50}, {9000, 3000}, {5, 1000}, {least + 30, 50}, {least, 50}, {greatest, 70}, {greatest - 5, 70}} {
		for _, f := range [][2]int{{500, 100}, {101, 100}, {100, 0}, {-10, -110}, {7, -30}, {most, 1}, {greatest, 0}, {greatest, least}, {math.MaxInt, math.MinInt}, {0, -1 << 40}} {
			fuel, lean := fixed(f[0]), fixed(f[1])
			last := greatest
			for _, v := range row(c.red, c.margin) {
				now := Trim(v, c.red, c.margin, f[0], f[1])
				if now > last || now > fuel || now < lean {
					t.Fatalf("Trim(%d, %d, %d, %d, %d) = %d, behind %d", v, c.red, c.margin, f[0], f[1], now, last)
				}
				if below := fixed(v) <= c.red-c.margin; below != (now == fuel) {
					t.Fatalf("Trim(%d, %d, %d, %d, %d) = %d", v, c.red, c.margin, f[0], f[1], now)
				}
				if fixed(v) >= c.red && now != lean {
					t.Fatalf("Trim(%d, %d, %d, %d, %d) = %d", v, c.red, c.margin, f[0], f[1], now)
				}
				last = now
			}
		}
	}
}

// P15.4: the same of Least, whichever of the three goes along the row, beside others that stand still.
func TestLeastRows(t *testing.T) {
	for _, l := range []api.Laws{laws(), withReds(50, 60, 70, 50), withReds(70, 50, 60, 7)} {
		reds := [3]int{l.Red1, l.Red2, l.RedE}
		for i, red := range reds {
			for _, still := range []int{-1000, -l.Margin, -l.Margin / 2, 0} {
				last := greatest
				for _, v := range row(red, l.Margin) {
					three := [3]int{reds[0] + still, reds[1] + still, reds[2] + still}
					three[i] = v
					now, which := Least(l, three[0], three[1], three[2], 500, 100)
					lean := still == 0 || v >= red
					whole := still <= -l.Margin && v <= red-l.Margin
					if now > last || lean != (now == 100) || whole != (now == 500) || whole != (which == 0) {
						t.Fatalf("%v: Least(%v) = %d, %d, behind %d", l, three, now, which, last)
					}
					last = now
				}
			}
		}
	}
}

// roomy is laws whose lists have spare room.
func roomy(l api.Laws) api.Laws {
	room := func(l []int) []int { return append(slices.Clone(l), 77, 78, 79)[:len(l)] }
	for _, t := range []*api.Table{&l.Accel, &l.Decel, &l.Start} {
		t.X, t.Y = room(t.X), room(t.Y)
	}
	return l
}

// all is all that the lists of laws have, their spare room included.
func all(l api.Laws) []int {
	var out []int
	for _, list := range [][]int{l.Accel.X, l.Accel.Y, l.Decel.X, l.Decel.Y, l.Start.X, l.Start.Y} {
		out = append(append(out, len(list)), list[:cap(list)]...)
	}
	return out
}

// answers are those of all calls.
func answers(l api.Laws, list []int) [10]int {
	var out [10]int
	out[0], out[1] = Least(l, 8980, 10970, 960, 500, 100)
	out[2], out[3] = Least(l, 0, 0, 999, 500, 100)
	out[4], out[5] = Least(l, 0, 0, 0, 1<<40, 100)
	out[6], out[7] = Trim(80, 100, 50, 500, 100), Trim(math.MaxInt, math.MinInt, 0, math.MaxInt, math.MinInt)
	out[8], out[9] = Ladder(5, list...), Ladder(math.MinInt, list...)
	return out
}

// R4, R5: laws and a ladder's list are as they were behind the calls, spare room included; calls ahead change nothing; and spare room does not matter.
func TestHandedIn(t *testing.T) {
	lists := [][]int{nil, {}, {7}, {9, 7, 8}, {math.MaxInt, 7, math.MinInt}, {7, 7, 1 << 40}}
	many := manyLaws()
	for _, l := range badLaws() {
		many = append(many, l)
	}
	for i, l := range many {
		list := lists[i%len(lists)]
		full := append(slices.Clone(list), 77, math.MinInt, math.MaxInt)
		laws, wasFull := roomy(l), slices.Clone(full)
		was := all(laws)
		first := answers(laws, full[:len(list)])
		if !slices.Equal(all(laws), was) || !slices.Equal(full, wasFull) {
			t.Fatalf("%v, %v became %v, %v", was, wasFull, all(laws), full)
		}
		answers(withReds(60, 70, 50, 49), []int{1, 2, 3})
		if answers(laws, full[:len(list)]) != first {
			t.Fatalf("%v, %v: another answer, the second time", l, list)
		}
		if answers(l, list) != first {
			t.Fatalf("%v, %v: another answer, without spare room", l, list)
		}
	}
}
