package arbiter

import (
	"math"
	"slices"
	"testing"

	"turbojet/api"
)

// others are numbers that are no unit's: below HoldA, above HoldH, those whose lesser half is a unit's, and the ends of an int.
func others() []int {
	return []int{
		math.MinInt, math.MinInt + 1, math.MinInt + 2, -1 << 62, -1<<32 + 1, -1 << 32, -1 << 31, -256, -255, -3, -2, -1,
		3, 4, 5, 7, 9, 128, 255, 256, 257, 1 << 16, 1<<16 + 1, 1<<31 - 1, 1 << 31, 1 << 32, 1<<32 + 1, 1<<32 + 2, 1 << 62, math.MaxInt - 1, math.MaxInt,
	}
}

// numbers are those of the units, and others.
func numbers() []int { return append(others(), api.HoldA, api.HoldB, api.HoldH) }

// turn is what a frame has.
type turn struct {
	a, b, revert bool
}

// turns are all that a frame may have.
func turns() []turn {
	var out []turn
	for bits := range 8 {
		out = append(out, turn{bits&1 != 0, bits&2 != 0, bits&4 != 0})
	}
	return out
}

// told is P19.1 in words of its own.
func told(holder int, f turn) int {
	switch {
	case f.revert || !f.a && !f.b:
		return 2
	case holder == 0 && f.a || holder == 1 && f.b:
		return holder
	case f.a:
		return 0
	}
	return 1
}

// rowsOf are all rows of that many frames, each of which has one of these.
func rowsOf(each []turn, length int) [][]turn {
	out := [][]turn{nil}
	for range length {
		var longer [][]turn
		for _, r := range out {
			for _, f := range each {
				longer = append(longer, append(slices.Clone(r), f))
			}
		}
		out = longer
	}
	return out
}

// apart are a row's frames as Way takes them.
func apart(row []turn) (wells [][2]bool, reverts []bool) {
	for _, f := range row {
		wells, reverts = append(wells, [2]bool{f.a, f.b}), append(reverts, f.revert)
	}
	return wells, reverts
}

// P19.1: the numbers of who holds the valve.
func TestNumbers(t *testing.T) {
	if api.HoldA != 0 || api.HoldB != 1 || api.HoldH != 2 {
		t.Errorf("%d, %d, %d", api.HoldA, api.HoldB, api.HoldH)
	}
}

// P19.1: the chapter's examples.
func TestExamples(t *testing.T) {
	a, b := Next(api.HoldB, true, true, false), Next(api.HoldB, true, false, false)
	c, d := Next(api.HoldA, false, false, false), Next(api.HoldA, true, true, true)
	if a != api.HoldB || b != api.HoldA || c != api.HoldH || d != api.HoldH {
		t.Errorf("%d, %d, %d, %d", a, b, c, d)
	}
}

// P19.1: by hand, every unit with all that a frame may have.
func TestNextByHand(t *testing.T) {
	const a, b, h = api.HoldA, api.HoldB, api.HoldH
	for _, c := range []struct {
		f                   turn
		fromA, fromB, fromH int
	}{
		{turn{false, false, false}, h, h, h},
		{turn{true, false, false}, a, a, a},
		{turn{false, true, false}, b, b, b},
		{turn{true, true, false}, a, b, a},
		{turn{false, false, true}, h, h, h},
		{turn{true, false, true}, h, h, h},
		{turn{false, true, true}, h, h, h},
		{turn{true, true, true}, h, h, h},
	} {
		for from, want := range map[int]int{a: c.fromA, b: c.fromB, h: c.fromH} {
			if got := Next(from, c.f.a, c.f.b, c.f.revert); got != want {
				t.Errorf("%d, %+v: %d, not %d", from, c.f, got, want)
			}
		}
	}
}

// P19.1: a holder that there is not is none that may keep it: as if the unit without channels had held it.
func TestNextOfOthers(t *testing.T) {
	for _, from := range others() {
		for _, f := range turns() {
			got := Next(from, f.a, f.b, f.revert)
			if got != told(from, f) || got != Next(api.HoldH, f.a, f.b, f.revert) {
				t.Errorf("%d, %+v: %d", from, f, got)
			}
		}
		if got := Next(from, true, true, false); got != api.HoldA {
			t.Errorf("%d, both well: %d", from, got)
		}
		if got := Next(from, false, true, false); got != api.HoldB {
			t.Errorf("%d, B well: %d", from, got)
		}
		if a, b := Next(from, false, false, false), Next(from, true, true, true); a != api.HoldH || b != api.HoldH {
			t.Errorf("%d, neither well: %d; reverted: %d", from, a, b)
		}
	}
}

// P19.1: every holder, with all that a frame may have: as told.
func TestNext(t *testing.T) {
	for _, from := range numbers() {
		for _, f := range turns() {
			if got, want := Next(from, f.a, f.b, f.revert), told(from, f); got != want {
				t.Errorf("%d, %+v: %d, not %d", from, f, got, want)
			}
		}
	}
}

// P19.2: by hand: whether one may become another.
func TestMayByHand(t *testing.T) {
	const a, b, h = api.HoldA, api.HoldB, api.HoldH
	for _, c := range []struct {
		from, to int
		f        turn
		want     bool
	}{
		{a, a, turn{true, true, false}, true},
		{a, b, turn{true, true, false}, false},
		{a, h, turn{true, true, false}, false},
		{b, b, turn{true, true, false}, true},
		{b, a, turn{true, true, false}, false},
		{b, a, turn{true, false, false}, true},
		{b, b, turn{true, false, false}, false},
		{a, b, turn{false, true, false}, true},
		{a, a, turn{false, true, false}, false},
		{h, a, turn{true, true, false}, true},
		{h, b, turn{true, true, false}, false},
		{h, b, turn{false, true, false}, true},
		{h, h, turn{false, true, false}, false},
		{h, h, turn{false, false, false}, true},
		{a, h, turn{false, false, false}, true},
		{a, a, turn{false, false, false}, false},
		{a, h, turn{true, true, true}, true},
		{a, a, turn{true, true, true}, false},
		{b, h, turn{false, true, true}, true},
		{7, 7, turn{true, true, false}, false},
		{7, a, turn{true, true, false}, true},
		{-1, -1, turn{false, false, false}, false},
		{-1, h, turn{false, false, false}, true},
		{math.MaxInt, b, turn{false, true, false}, true},
		{math.MinInt, math.MinInt, turn{false, true, false}, false},
	} {
		if got := May(c.from, c.to, c.f.a, c.f.b, c.f.revert); got != c.want {
			t.Errorf("from %d to %d, %+v: %t", c.from, c.to, c.f, got)
		}
	}
}

// P19.2: every two numbers, with all that a frame may have: exactly if the one is Next of the other; so one of three, and no other number.
func TestMay(t *testing.T) {
	for _, from := range numbers() {
		for _, f := range turns() {
			may := 0
			for _, to := range numbers() {
				got := May(from, to, f.a, f.b, f.revert)
				if got != (to == Next(from, f.a, f.b, f.revert)) || got != (to == told(from, f)) {
					t.Errorf("from %d to %d, %+v: %t", from, to, f, got)
				}
				if got && to != api.HoldA && to != api.HoldB && to != api.HoldH {
					t.Errorf("from %d to %d, that there is not, %+v", from, to, f)
				}
				if got {
					may++
				}
			}
			if may != 1 {
				t.Errorf("from %d, %+v: it may become %d", from, f, may)
			}
		}
	}
}

// P19.2: of no frame there is no holder, whatever the pilot does.
func TestWayOfNothing(t *testing.T) {
	for _, from := range numbers() {
		for _, wells := range [][][2]bool{nil, {}, make([][2]bool, 3)[:0]} {
			for _, reverts := range [][]bool{nil, {}, {true}, {false, true, true}} {
				if got := Way(from, wells, reverts); len(got) != 0 {
					t.Errorf("%d, %v: %v", from, reverts, got)
				}
			}
		}
	}
}

// P19.2: of one frame it is Next's holder: with every holder, and with reverts of none, of one, and of more.
func TestWayOfOne(t *testing.T) {
	for _, from := range numbers() {
		for _, f := range turns() {
			wells := [][2]bool{{f.a, f.b}}
			for _, more := range [][]bool{nil, {false}, {true}, {false, true, true}, {true, false, false}} {
				reverts := append([]bool{f.revert}, more...)
				if got := Way(from, wells, reverts); !slices.Equal(got, []int{told(from, f)}) {
					t.Errorf("%d, %v, %v: %v", from, wells, reverts, got)
				}
			}
			for _, none := range [][]bool{nil, {}, []bool{true, true}[:0]} {
				if got := Way(from, wells, none); !slices.Equal(got, []int{told(from, turn{f.a, f.b, false})}) {
					t.Errorf("%d, %v, not reverted: %v", from, wells, got)
				}
			}
		}
	}
}

// P19.2: by hand: ways that go from one to another, and back, and that stay.
func TestWayByHand(t *testing.T) {
	both, onlyA, onlyB, none := [2]bool{true, true}, [2]bool{true, false}, [2]bool{false, true}, [2]bool{}
	for name, c := range map[string]struct {
		from    int
		wells   [][2]bool
		reverts []bool
		want    []int
	}{
		"A stays":                         {0, [][2]bool{both, onlyA, both, both}, nil, []int{0, 0, 0, 0}},
		"B stays":                         {1, [][2]bool{both, onlyB, both, both}, nil, []int{1, 1, 1, 1}},
		"the unit without channels stays": {2, [][2]bool{none, both, onlyA, none}, []bool{false, true, true}, []int{2, 2, 2, 2}},
		"A to B, that stays":              {0, [][2]bool{both, onlyB, both, both, onlyB}, nil, []int{0, 1, 1, 1, 1}},
		"B to A, that stays":              {1, [][2]bool{both, onlyA, both, both, onlyA}, nil, []int{1, 0, 0, 0, 0}},
		"A to B, and back":                {0, [][2]bool{onlyB, both, onlyA, both, onlyB}, nil, []int{1, 1, 0, 0, 1}},
		"neither is well, and A again":    {0, [][2]bool{both, none, none, onlyA, both}, nil, []int{0, 2, 2, 0, 0}},
		"neither is well, and B again":    {0, [][2]bool{both, none, none, onlyB, both}, nil, []int{0, 2, 2, 1, 1}},
		"neither is well, B had it":       {1, [][2]bool{both, none, both}, nil, []int{1, 2, 0}},
		"reverted from A, and back":       {0, [][2]bool{both, both, both}, []bool{false, true, false}, []int{0, 2, 0}},
		"reverted from B, and back to A":  {1, [][2]bool{both, both, both, both}, []bool{false, true, true, false}, []int{1, 2, 2, 0}},
		"reverted from B, and back":       {1, [][2]bool{both, onlyB, onlyB}, []bool{false, true, false}, []int{1, 2, 1}},
		"none to begin with, and A":       {9, [][2]bool{both, onlyB, both}, nil, []int{0, 1, 1}},
		"none to begin with, and B":       {-1, [][2]bool{onlyB, both, onlyA}, nil, []int{1, 1, 0}},
		"none to begin with, reverted":    {math.MinInt, [][2]bool{both, both}, []bool{true, false}, []int{2, 0}},
		"none to begin with, none well":   {math.MaxInt, [][2]bool{none, onlyB}, nil, []int{2, 1}},
		"reverts end early":               {0, [][2]bool{both, both, both, both}, []bool{true, true}, []int{2, 2, 0, 0}},
		"reverts are as many":             {0, [][2]bool{both, both, both}, []bool{false, false, true}, []int{0, 0, 2}},
		"reverts are more":                {0, [][2]bool{both, both}, []bool{false, false, true, true}, []int{0, 0}},
	} {
		if got := Way(c.from, c.wells, c.reverts); !slices.Equal(got, c.want) {
			t.Errorf("%s: %v, not %v", name, got, c.want)
		}
	}
}

// P19.2: all rows of up to three frames, with reverts of every length up to one more than the frames: each frame's holder is Next of the one ahead.
func TestWay(t *testing.T) {
	from := []int{api.HoldA, api.HoldB, api.HoldH, -1, 3, math.MinInt, math.MaxInt, 1 << 32, 1<<32 + 1}
	for length := range 4 {
		for _, row := range rowsOf(turns(), length) {
			wells, reverts := apart(row)
			reverts = append(reverts, true)
			for _, holder := range from {
				for n := range len(reverts) + 1 {
					way := Way(holder, wells, reverts[:n])
					if len(way) != length {
						t.Fatalf("%d, %v, %v: %v", holder, wells, reverts[:n], way)
					}
					last := holder
					for i, f := range row {
						f.revert = f.revert && i < n
						if want := told(last, f); way[i] != want || way[i] != Next(last, f.a, f.b, f.revert) || !May(last, way[i], f.a, f.b, f.revert) {
							t.Fatalf("%d, %v, %v: %v, not %d in the frame %d", holder, wells, reverts[:n], way, want, i)
						}
						last = way[i]
					}
				}
			}
		}
	}
}

// P19.2: a way is one behind the other: the holder behind the first frames goes on with those that are left.
func TestWayGoesOn(t *testing.T) {
	for _, row := range rowsOf(turns(), 4) {
		wells, reverts := apart(row)
		for _, holder := range []int{api.HoldA, api.HoldB, api.HoldH, 5} {
			whole := Way(holder, wells, reverts)
			for n := 1; n < len(row); n++ {
				first := Way(holder, wells[:n], reverts)
				parts := append(first, Way(first[n-1], wells[n:], reverts[n:])...)
				if !slices.Equal(parts, whole) {
					t.Fatalf("%d, %v, %v: %v, and in parts %v", holder, wells, reverts, whole, parts)
				}
			}
		}
	}
}

// counts are how often what P19.3 tells of was to be seen.
type counts struct {
	kept, over, without, again int
}

// follows holds one frame of a way against P19.3.
func follows(t *testing.T, from, to int, f turn, seen *counts) {
	well := map[int]bool{api.HoldA: f.a, api.HoldB: f.b}
	if to != api.HoldA && to != api.HoldB && to != api.HoldH {
		t.Fatalf("from %d, %+v: %d is none of three", from, f, to)
	}
	if (to == api.HoldH) != (f.revert || !f.a && !f.b) {
		t.Fatalf("from %d, %+v: %d", from, f, to)
	}
	if to != api.HoldH && !well[to] {
		t.Fatalf("from %d, %+v: %d, that is not well", from, f, to)
	}
	_, channel := well[from]
	switch {
	case to == api.HoldH:
		seen.without++
	case !channel:
		seen.again++
	case to == from:
		seen.kept++
	default:
		if seen.over++; well[from] {
			t.Fatalf("from %d, that is well, to %d: %+v", from, to, f)
		}
	}
}

// seldom tells if any of these were too seldom to tell.
func (c counts) seldom(t *testing.T) {
	if c.kept < 1000 || c.over < 1000 || c.without < 1000 || c.again < 1000 {
		t.Errorf("%+v: too seldom to tell", c)
	}
}

// rowsFollow holds all rows of up to so many frames, each of which has one of these, against P19.3, with each of these to begin with.
func rowsFollow(t *testing.T, each []turn, most int, from ...int) {
	var seen counts
	for length := range most + 1 {
		for _, row := range rowsOf(each, length) {
			wells, reverts := apart(row)
			for _, last := range from {
				for i, to := range Way(last, wells, reverts) {
					follows(t, last, to, row[i], &seen)
					last = to
				}
			}
		}
	}
	seen.seldom(t)
}

// P19.3: over all rows of frames up to some length, and every holder to begin with: one of three holds it; it goes to the unit without channels exactly when the pilot reverts, or neither is well; and from a channel to the other one only when that is not well.
func TestAllRows(t *testing.T) {
	rowsFollow(t, turns(), 5, api.HoldA, api.HoldB, api.HoldH, -1, 3)
	rowsFollow(t, []turn{{}, {a: true}, {b: true}, {a: true, b: true}}, 8, api.HoldA, api.HoldB, api.HoldH)
}

// P19.3: a channel that is well keeps the valve for as long as the pilot does not revert, whatever the other one is.
func TestKept(t *testing.T) {
	for bits := range 1 << 10 {
		var withA, withB [][2]bool
		for n := range 10 {
			other := bits>>n&1 != 0
			withA, withB = append(withA, [2]bool{true, other}), append(withB, [2]bool{other, true})
		}
		if got := Way(api.HoldA, withA, nil); !slices.Equal(got, slices.Repeat([]int{api.HoldA}, 10)) {
			t.Fatalf("A, %v: %v", withA, got)
		}
		if got := Way(api.HoldB, withB, make([]bool, 7)); !slices.Equal(got, slices.Repeat([]int{api.HoldB}, 10)) {
			t.Fatalf("B, %v: %v", withB, got)
		}
	}
}

// long is a long row of frames, by a short rule.
func long(k int) []turn {
	var out []turn
	for n := range 3000 {
		out = append(out, turn{(n*n+k)%7 < 5, (n*3+k*n/11)%5 < 3, (n+k)%13 == 0})
	}
	return out
}

// P19.2, P19.3: long rows of frames, with reverts as long, and shorter.
func TestLongRows(t *testing.T) {
	var seen counts
	for k := range 20 {
		row := long(k)
		wells, reverts := apart(row)
		for _, n := range []int{0, 1, 1500, 2999, 3000} {
			last := k%5 - 1
			way := Way(last, wells, reverts[:n])
			if len(way) != len(row) {
				t.Fatalf("%d holders", len(way))
			}
			for i, f := range row {
				f.revert = f.revert && i < n
				if way[i] != told(last, f) {
					t.Fatalf("%d: %d, not %d in the frame %d", k, way[i], told(last, f), i)
				}
				follows(t, last, way[i], f, &seen)
				last = way[i]
			}
		}
	}
	seen.seldom(t)
}

// roomy is a list with spare room behind it, that is filled; and all of it.
func roomy[T any](l []T, spare int, filler T) ([]T, []T) {
	whole := make([]T, len(l)+spare)
	for i := range whole {
		whole[i] = filler
	}
	copy(whole, l)
	return whole[:len(l)], whole
}

// R4, R5: lists that are handed in are as they were behind the call, spare room included, whatever stands there; and the same call again, behind others, answers the same.
func TestHandedIn(t *testing.T) {
	for k, row := range rowsOf(turns(), 3) {
		plain, turned := apart(row)
		want := Way(k%4, plain, turned)
		for _, spare := range []int{0, 1, 5} {
			for _, fill := range []bool{false, true} {
				wells, allWells := roomy(plain, spare, [2]bool{fill, !fill})
				reverts, allReverts := roomy(turned[:k%4], spare, fill)
				wasWells, wasReverts := slices.Clone(allWells), slices.Clone(allReverts)
				first := Way(k%4, wells, reverts)
				if !slices.Equal(allWells, wasWells) || !slices.Equal(allReverts, wasReverts) {
					t.Fatalf("%v became %v, %v became %v", wasWells, allWells, wasReverts, allReverts)
				}
				Way(1, allWells, allReverts)
				again := Way(k%4, wells, reverts)
				if !slices.Equal(first, again) || !slices.Equal(first, Way(k%4, plain, turned[:k%4])) {
					t.Fatalf("%v, %v, %d to spare: %v, then %v", wells, reverts, spare, first, again)
				}
			}
		}
		if again := Way(k%4, plain, turned); !slices.Equal(again, want) {
			t.Fatalf("%v, %v: %v, then %v", plain, turned, want, again)
		}
	}
}

// R5: Next and May answer the same again, behind other calls.
func TestAgain(t *testing.T) {
	for _, from := range numbers() {
		for _, f := range turns() {
			to := Next(from, f.a, f.b, f.revert)
			for _, other := range turns() {
				Next(1, other.a, other.b, other.revert)
				May(to, from, other.a, other.b, other.revert)
				if again := Next(from, f.a, f.b, f.revert); again != to || !May(from, to, f.a, f.b, f.revert) {
					t.Fatalf("%d, %+v: %d, then %d", from, f, to, again)
				}
			}
		}
	}
}

// R4: what Way answers is new memory each time, its spare room too, and none of what was handed in.
func TestNewMemory(t *testing.T) {
	for length := range 40 {
		row := long(length)[:length]
		wells, reverts := apart(row)
		want := Way(1, wells, reverts)
		answers := [][]int{Way(1, wells, reverts), Way(1, wells, reverts), Way(1, wells[:length/2], reverts), Way(1, wells, reverts)}
		for i, one := range answers {
			was := make([][]int, len(answers))
			for j, other := range answers {
				was[j] = slices.Clone(other[:cap(other)])
			}
			for n := range one[:cap(one)] {
				one[:cap(one)][n] = -7 - i
			}
			for j, other := range answers {
				if j != i && !slices.Equal(other[:cap(other)], was[j]) {
					t.Fatalf("%d frames: answer %d changed answer %d", length, i, j)
				}
			}
		}
		if again := Way(1, wells, reverts); !slices.Equal(again, want) {
			t.Fatalf("%d frames: %v, then %v", length, want, again)
		}
		wells, reverts = append(wells, [2]bool{true, true}), append(reverts, true)
		kept := slices.Clone(want)
		for i := range wells {
			wells[i], reverts[i] = [2]bool{}, true
		}
		if !slices.Equal(want, kept) {
			t.Fatalf("%d frames: the answer became %v, of %v", length, want, kept)
		}
	}
}

// R4: who holds the valve may be gone through in part, and then anew.
func TestLeftEarly(t *testing.T) {
	wells, reverts := apart(long(3)[:9])
	want := Way(api.HoldB, wells, reverts)
	all := holders(api.HoldB, wells, reverts)
	for range 2 {
		for most := range len(want) + 1 {
			var got []int
			for next := range all {
				if len(got) == most {
					break
				}
				got = append(got, next)
			}
			if !slices.Equal(got, want[:most]) {
				t.Errorf("the first %d: %v, not %v", most, got, want[:most])
			}
		}
	}
	for holder, want := range map[int][]int{api.HoldA: {0, 1}, api.HoldB: {1, 0, 1}, api.HoldH: {0, 1}, -1: {0, 1}} {
		for most := range len(want) + 1 {
			var got []int
			for channel := range asked(holder) {
				if len(got) == most {
					break
				}
				got = append(got, channel)
			}
			if !slices.Equal(got, want[:most]) {
				t.Errorf("of %d the first %d: %v, not %v", holder, most, got, want[:most])
			}
		}
	}
}
