package fault

import (
	"math"
	"slices"
	"testing"

	"turbojet/api"
)

// The chapter's numbers.
const (
	errArg    = 1
	latches   = 3
	mostCode  = 255
	mostOften = 65535
)

// rec is a record that is not latched, lat one that is.
func rec(code, count int) api.Record { return api.Record{Code: code, Count: count} }
func lat(code, count int) api.Record { return api.Record{Code: code, Count: count, Latched: true} }

// list are records.
func list(l ...api.Record) []api.Record { return l }

// several are records at the first code, in the midst and at the last one, with room between them.
func several() []api.Record {
	return list(rec(1, 2), rec(7, 1), lat(8, 9), rec(40, 65535), lat(100, 1), rec(255, 1))
}

// edges are numbers at which a code may be, and no longer be, and far from them.
func edges() []int {
	return []int{math.MinInt, math.MinInt + 1, -1 << 32, -1<<32 + 5, -256, -1, 0, 1, 2, 254, 255, 256, 257, 511, 512, 1<<32 + 5, math.MaxInt - 1, math.MaxInt}
}

// roomy is a list with spare room behind it, that is filled; and all of it.
func roomy[T any](l []T, spare int, filler T) ([]T, []T) {
	whole := make([]T, len(l)+spare)
	copy(whole, l)
	for i := len(l); i < len(whole); i++ {
		whole[i] = filler
	}
	return whole[:len(l)], whole
}

// scribble changes all that a list has, its spare room too.
func scribble(l []api.Record) {
	l = l[:cap(l)]
	for i := range l {
		l[i] = lat(-77, -78)
	}
}

// rises tells whether each code is less than the next one.
func rises(l []api.Record) bool {
	for i := 1; i < len(l); i++ {
		if l[i-1].Code >= l[i].Code {
			return false
		}
	}
	return true
}

// draw is numbers of a short rule, below n.
type draw uint64

func (d *draw) below(n int) int {
	*d = *d*6364136223846793005 + 1442695040888963407
	return int(*d>>33) % n
}

// finds holds what Find tells of a code against what it should.
func finds(t *testing.T, l []api.Record, code int, want api.Record, there bool) {
	t.Helper()
	for range 2 {
		if r, ok := Find(l, code); r != want || ok != there {
			t.Errorf("Find(%v, %d) = %v, %v, not %v, %v", l, code, r, ok, want, there)
		}
	}
}

// raised holds what Raise answers against what it should, twice, with less and with more spare room, and what was handed over against how it was. What it hands back is a fresh answer.
func raised(t *testing.T, l []api.Record, code int, errno api.Errno, want ...api.Record) []api.Record {
	t.Helper()
	for _, spare := range []int{0, 1, 2, 9} {
		given, whole := roomy(l, spare, lat(-5, -6))
		before := slices.Clone(whole)
		for range 2 {
			next, err := Raise(given, code)
			if err != errno || !slices.Equal(next, want) {
				t.Fatalf("Raise(%v, %d) = %v, %d, not %v, %d", l, code, next, err, want, errno)
			}
			scribble(next)
			if !slices.Equal(whole, before) {
				t.Fatalf("Raise(%v, %d), %d to spare: the list handed over became %v", l, code, spare, whole)
			}
		}
		next, _ := Raise(given, code)
		scribble(given)
		if !slices.Equal(next, want) {
			t.Fatalf("Raise(%v, %d), %d to spare: the answer became %v", l, code, spare, next)
		}
	}
	next, err := Raise(l, code)
	if err != errno || !slices.Equal(next, want) {
		t.Fatalf("Raise(%v, %d) = %v, %d, not %v, %d", l, code, next, err, want, errno)
	}
	return next
}

// P13.1: the chapter's numbers.
func TestNumbers(t *testing.T) {
	if api.Latches != latches || api.MaxCode != mostCode || api.MaxOften != mostOften || api.ErrArg != errArg || api.OK != 0 {
		t.Errorf("Latches is %d, MaxCode %d, MaxOften %d, ErrArg %d, OK %d", api.Latches, api.MaxCode, api.MaxOften, api.ErrArg, api.OK)
	}
}

// P13.1, P13.2: the chapter's examples.
func TestExamples(t *testing.T) {
	l := raised(t, nil, 5, api.OK, rec(5, 1))
	l = raised(t, l, 5, api.OK, rec(5, 2))
	raised(t, l, 5, api.OK, lat(5, 3))
	if e := Edge([]bool{true, false}, []bool{true, true, true}); !slices.Equal(e, []int{1, 2}) {
		t.Errorf("Edge: %v", e)
	}
	if c := Code(1, 2); c != 19 {
		t.Errorf("Code(1, 2) = %d", c)
	}
}

// P13.1: Find in no records, in one, and in several: at the first place, in the midst, at the last one, and at none.
func TestFind(t *testing.T) {
	for _, l := range [][]api.Record{nil, {}, several()[:0]} {
		for _, code := range append(edges(), 5) {
			finds(t, l, code, api.Record{}, false)
		}
	}
	one := list(lat(5, 4))
	finds(t, one, 5, lat(5, 4), true)
	for _, code := range append(edges(), 4, 6) {
		finds(t, one, code, api.Record{}, false)
	}
	l := several()
	for _, r := range several() {
		finds(t, l, r.Code, r, true)
	}
	for _, code := range []int{math.MinInt, -256, -1, 0, 2, 6, 9, 39, 41, 99, 101, 254, 256, 511, 1<<32 + 7, math.MaxInt} {
		finds(t, l, code, api.Record{}, false)
	}
	for _, code := range []int{0, 1, 255, 256} {
		finds(t, l[1:5], code, api.Record{}, false)
	}
	if !slices.Equal(l, several()) {
		t.Errorf("the list became %v", l)
	}
}

// P13.1: Find tells a record as it is, whatever its numbers are, and knows nothing of codes that may be.
func TestFindAsItIs(t *testing.T) {
	for _, code := range edges() {
		for _, count := range edges() {
			for _, r := range list(rec(code, count), lat(code, count)) {
				finds(t, list(r), code, r, true)
				finds(t, list(rec(9, 1), r, lat(12, 3)), code, r, true)
				finds(t, list(r), code^1, api.Record{}, false)
			}
		}
	}
	finds(t, list(rec(0, 0)), 0, rec(0, 0), true)
}

// P13.1: where several records bear the code, Find tells the first one, in lists that do not rise too.
func TestFindFirst(t *testing.T) {
	finds(t, list(rec(5, 1), lat(5, 2)), 5, rec(5, 1), true)
	finds(t, list(lat(5, 2), rec(5, 1)), 5, lat(5, 2), true)
	finds(t, list(rec(3, 9), rec(5, 7), rec(5, 8), lat(5, 9), rec(6, 1)), 5, rec(5, 7), true)
	finds(t, list(rec(9, 9), rec(5, 8), rec(7, 1), rec(5, 7)), 5, rec(5, 8), true)
	finds(t, list(rec(9, 9), rec(7, 1), rec(5, 8)), 5, rec(5, 8), true)
	finds(t, list(rec(9, 9), rec(7, 1), rec(5, 8)), 8, api.Record{}, false)
}

// P13.1: the spare room of a list is not asked for a record.
func TestFindSpareRoom(t *testing.T) {
	l, whole := roomy(list(rec(3, 1)), 4, lat(5, 6))
	before := slices.Clone(whole)
	finds(t, l, 5, api.Record{}, false)
	finds(t, l[:0], 3, api.Record{}, false)
	if !slices.Equal(whole, before) {
		t.Errorf("the list became %v", whole)
	}
}

// P13.1: Raise of a code that may not be: ErrArg, and the list as it was, in memory of its own.
func TestRaiseBad(t *testing.T) {
	lists := [][]api.Record{nil, {}, {rec(5, 1)}, {lat(1, 1)}, {rec(255, 65535)}, several(), {rec(0, 1), rec(256, 2)}, {rec(-1, 70000), lat(300, -3)}, {rec(9, 1), rec(4, 1), rec(4, 2)}}
	for _, l := range lists {
		was := slices.Clone(l)
		for _, code := range edges() {
			if code >= 1 && code <= mostCode {
				continue
			}
			raised(t, l, code, errArg, was...)
		}
		if !slices.Equal(l, was) {
			t.Errorf("%v became %v", was, l)
		}
	}
}

// P13.1: Raise into no records: one of its code alone, once, whatever code may be.
func TestRaiseIntoNone(t *testing.T) {
	for code := 1; code <= mostCode; code++ {
		for _, l := range [][]api.Record{nil, {}, several()[:0]} {
			raised(t, l, code, api.OK, rec(code, 1))
		}
	}
}

// P13.1: Raise of a code that is not there: it stands at its place, and the others are as they were.
func TestRaiseNew(t *testing.T) {
	for _, c := range []struct {
		l    []api.Record
		code int
		want []api.Record
	}{
		{list(lat(5, 4)), 1, list(rec(1, 1), lat(5, 4))},
		{list(lat(5, 4)), 4, list(rec(4, 1), lat(5, 4))},
		{list(lat(5, 4)), 6, list(lat(5, 4), rec(6, 1))},
		{list(lat(5, 4)), 255, list(lat(5, 4), rec(255, 1))},
		{list(lat(5, 4), rec(9, 65535)), 4, list(rec(4, 1), lat(5, 4), rec(9, 65535))},
		{list(lat(5, 4), rec(9, 65535)), 7, list(lat(5, 4), rec(7, 1), rec(9, 65535))},
		{list(lat(5, 4), rec(9, 65535)), 10, list(lat(5, 4), rec(9, 65535), rec(10, 1))},
		{list(rec(2, 2), lat(4, 4), rec(6, 1), rec(8, 9)), 1, list(rec(1, 1), rec(2, 2), lat(4, 4), rec(6, 1), rec(8, 9))},
		{list(rec(2, 2), lat(4, 4), rec(6, 1), rec(8, 9)), 3, list(rec(2, 2), rec(3, 1), lat(4, 4), rec(6, 1), rec(8, 9))},
		{list(rec(2, 2), lat(4, 4), rec(6, 1), rec(8, 9)), 5, list(rec(2, 2), lat(4, 4), rec(5, 1), rec(6, 1), rec(8, 9))},
		{list(rec(2, 2), lat(4, 4), rec(6, 1), rec(8, 9)), 7, list(rec(2, 2), lat(4, 4), rec(6, 1), rec(7, 1), rec(8, 9))},
		{list(rec(2, 2), lat(4, 4), rec(6, 1), rec(8, 9)), 255, list(rec(2, 2), lat(4, 4), rec(6, 1), rec(8, 9), rec(255, 1))},
		{list(rec(-3, 2), rec(0, 4), lat(256, 1), rec(300, 9)), 255, list(rec(-3, 2), rec(0, 4), rec(255, 1), lat(256, 1), rec(300, 9))},
		{list(rec(math.MinInt, 2), rec(math.MaxInt, -4)), 1, list(rec(math.MinInt, 2), rec(1, 1), rec(math.MaxInt, -4))},
	} {
		raised(t, c.l, c.code, api.OK, c.want...)
	}
}

// P13.1: Raise of each code that is there, and of each that is not: the list still rises, and all other records are as they were.
func TestRaiseEach(t *testing.T) {
	for code := 1; code <= mostCode; code++ {
		l := several()
		next, err := Raise(l, code)
		was, there := Find(several(), code)
		wide := len(several())
		if !there {
			wide++
		}
		if err != api.OK || !rises(next) || len(next) != wide {
			t.Fatalf("Raise of %d: %v, %d", code, next, err)
		}
		want := api.Record{Code: code, Count: min(was.Count+1, mostOften)}
		want.Latched = was.Latched || want.Count >= latches
		finds(t, next, code, want, true)
		others := slices.DeleteFunc(next, func(r api.Record) bool { return r.Code == code })
		if !slices.Equal(others, slices.DeleteFunc(several(), func(r api.Record) bool { return r.Code == code })) {
			t.Errorf("Raise of %d: the others are %v", code, others)
		}
		if !slices.Equal(l, several()) {
			t.Fatalf("Raise of %d: the list became %v", code, l)
		}
	}
}

// P13.1, P13.3: Raise of a code that is there: one more, up to MaxOften; latched, if it was, or from Latches on.
func TestRaiseMore(t *testing.T) {
	for _, c := range []struct{ was, is api.Record }{
		{rec(5, 1), rec(5, 2)},
		{rec(5, 2), lat(5, 3)},
		{rec(5, 3), lat(5, 4)},
		{rec(5, 4), lat(5, 5)},
		{lat(5, 1), lat(5, 2)},
		{lat(5, 2), lat(5, 3)},
		{lat(5, 3), lat(5, 4)},
		{rec(5, 255), lat(5, 256)},
		{lat(5, 1000), lat(5, 1001)},
		{rec(5, 65533), lat(5, 65534)},
		{rec(5, 65534), lat(5, 65535)},
		{lat(5, 65534), lat(5, 65535)},
		{rec(5, 65535), lat(5, 65535)},
		{lat(5, 65535), lat(5, 65535)},
		{rec(5, 0), rec(5, 1)},
		{lat(5, 0), lat(5, 1)},
		{rec(5, -1), rec(5, 0)},
		{lat(5, -1), lat(5, 0)},
		{rec(5, math.MinInt), rec(5, math.MinInt+1)},
		{lat(5, math.MinInt), lat(5, math.MinInt+1)},
		{rec(5, 65536), lat(5, 65535)},
		{rec(5, math.MaxInt-1), lat(5, 65535)},
		{rec(5, math.MaxInt), lat(5, 65535)},
		{lat(5, math.MaxInt), lat(5, 65535)},
	} {
		raised(t, list(c.was), 5, api.OK, c.is)
		raised(t, list(c.was, rec(6, 2), lat(9, 1)), 5, api.OK, c.is, rec(6, 2), lat(9, 1))
		raised(t, list(rec(1, 2), c.was, rec(6, 2)), 5, api.OK, rec(1, 2), c.is, rec(6, 2))
		raised(t, list(rec(1, 2), lat(4, 1), c.was), 5, api.OK, rec(1, 2), lat(4, 1), c.is)
	}
}

// P13.1, P13.3: one code's fault, that comes again and again: 1, 2 and so on, and beyond MaxOften no more; latched from the third one on.
func TestRaiseOn(t *testing.T) {
	for _, code := range []int{1, 5, mostCode} {
		l := list(rec(4, 2), rec(6, 1))
		for many := 1; many <= mostOften+10; many++ {
			next, err := Raise(l, code)
			if err != api.OK || len(next) != 3 || !rises(next) {
				t.Fatalf("code %d, %d times: %v, %d", code, many, next, err)
			}
			want := api.Record{Code: code, Count: min(many, mostOften), Latched: many >= latches}
			if r, ok := Find(next, code); r != want || !ok {
				t.Fatalf("code %d, %d times: %v, %v", code, many, r, ok)
			}
			l = next
		}
		finds(t, l, 4, rec(4, 2), true)
		finds(t, l, 6, rec(6, 1), true)
	}
}

// P13.1, P13.3: rows of many codes, in several orders: each list rises, no count falls, what is latched stays, and behind all each code is counted as often as it came.
func TestRaiseRows(t *testing.T) {
	var row []int
	for code := 1; code <= mostCode; code++ {
		for range code % 6 {
			row = append(row, code)
		}
	}
	var want []api.Record
	for code := 1; code <= mostCode; code++ {
		if many := code % 6; many > 0 {
			want = append(want, api.Record{Code: code, Count: many, Latched: many >= latches})
		}
	}
	back := slices.Clone(row)
	slices.Reverse(back)
	orders := [][]int{row, back}
	for seed := range 6 {
		d, mixed := draw(seed), slices.Clone(row)
		for i := len(mixed) - 1; i > 0; i-- {
			j := d.below(i + 1)
			mixed[i], mixed[j] = mixed[j], mixed[i]
		}
		orders = append(orders, mixed)
	}
	for i, order := range orders {
		var l []api.Record
		for _, code := range order {
			before := slices.Clone(l)
			next, err := Raise(l, code)
			if err != api.OK || !rises(next) || !slices.Equal(l, before) {
				t.Fatalf("order %d: Raise(%v, %d) = %v, %d, and %v behind", i, before, code, next, err, l)
			}
			onlyOneMore(t, before, next, code)
			l = next
		}
		if !slices.Equal(l, want) {
			t.Errorf("order %d: %v, not %v", i, l, want)
		}
	}
}

// onlyOneMore holds that one code was counted on, and that nothing fell, went or came unlatched.
func onlyOneMore(t *testing.T, before, behind []api.Record, code int) {
	t.Helper()
	for _, was := range before {
		is, ok := Find(behind, was.Code)
		if !ok || is.Count < was.Count || was.Latched && !is.Latched || was.Code != code && is != was {
			t.Fatalf("code %d: %v became %v, %v", code, was, is, ok)
		}
	}
	was, there := Find(before, code)
	is, _ := Find(behind, code)
	if is.Count != was.Count+1 || there != (len(before) == len(behind)) {
		t.Fatalf("code %d: %v became %v", code, was, is)
	}
}

// P13.1 (and R4): several answers of one list, and their spare room, share nothing with it, nor with one another.
func TestRaiseOwnMemory(t *testing.T) {
	for _, spare := range []int{0, 1, 5, 50} {
		l, whole := roomy(several(), spare, lat(-5, -6))
		before := slices.Clone(whole)
		var answers, copies [][]api.Record
		for range 2 {
			for _, code := range []int{0, 1, 3, 8, 200, 255, 256} {
				next, _ := Raise(l, code)
				answers, copies = append(answers, next), append(copies, slices.Clone(next))
			}
		}
		for i := range answers {
			scribble(answers[i])
			for j := i + 1; j < len(answers); j++ {
				if !slices.Equal(answers[j], copies[j]) {
					t.Fatalf("%d to spare: answer %d changed answer %d to %v", spare, i, j, answers[j])
				}
			}
			if !slices.Equal(whole, before) {
				t.Fatalf("%d to spare: answer %d changed the list to %v", spare, i, whole)
			}
		}
	}
}

// P13.1 (and R4): a list without elements, whose spare room is not none, is not written to, and gives none of it out.
func TestRaiseEmptySpareRoom(t *testing.T) {
	for _, code := range []int{-1, 0, 1, 5, 255, 256} {
		l, whole := roomy(list(), 3, lat(7, 7))
		next, _ := Raise(l, code)
		next = append(next, rec(1, 1), rec(2, 2))
		scribble(next)
		if !slices.Equal(whole, list(lat(7, 7), lat(7, 7), lat(7, 7))) {
			t.Errorf("code %d: the spare room became %v", code, whole)
		}
	}
}

// P13.1 (and R1, R4, R5): lists that do not rise: there is some answer, the same again, in memory of its own, and the list stays as it was.
func TestRaiseLoose(t *testing.T) {
	for seed := range 300 {
		d := draw(seed)
		l := make([]api.Record, d.below(9))
		for i := range l {
			l[i] = api.Record{Code: d.below(7) - 1, Count: d.below(5) - 1, Latched: d.below(3) == 0}
		}
		for _, code := range []int{-1, 0, 1, 2, 3, 4, 5, 6, 255, 256} {
			want, err := Raise(slices.Clone(l), code)
			if bad := code < 1 || code > mostCode; bad != (err == errArg) || !bad && err != api.OK {
				t.Fatalf("Raise(%v, %d): %d", l, code, err)
			}
			raised(t, l, code, err, want...)
		}
	}
}

// edgy holds what Edge answers against what it should, twice, with spare room that is true and false, and what was handed over against how it was.
func edgy(t *testing.T, was, now []bool, want ...int) {
	t.Helper()
	for _, spare := range []int{0, 1, 4} {
		for _, filler := range []bool{false, true} {
			w, wholeWas := roomy(was, spare, filler)
			n, wholeNow := roomy(now, spare, filler)
			beforeWas, beforeNow := slices.Clone(wholeWas), slices.Clone(wholeNow)
			first, again := Edge(w, n), Edge(w, n)
			if !slices.Equal(first, want) || !slices.Equal(again, want) {
				t.Fatalf("Edge(%v, %v) = %v, and again %v, not %v", was, now, first, again, want)
			}
			first = first[:cap(first)]
			for i := range first {
				first[i] = -9
			}
			if !slices.Equal(again, want) {
				t.Fatalf("Edge(%v, %v): one answer changed the other to %v", was, now, again)
			}
			if !slices.Equal(wholeWas, beforeWas) || !slices.Equal(wholeNow, beforeNow) {
				t.Fatalf("Edge(%v, %v): they became %v, %v", was, now, wholeWas, wholeNow)
			}
		}
	}
}

// P13.2: Edge of none, of lists of the same length, of a was that is shorter, and of one that is longer.
func TestEdge(t *testing.T) {
	const no, yes = false, true
	type bools = []bool
	for _, c := range []struct {
		was, now bools
		want     []int
	}{
		{nil, nil, nil}, {bools{}, bools{}, nil}, {bools{yes, yes}, nil, nil}, {bools{no, no}, bools{}, nil},
		{nil, bools{no}, nil}, {nil, bools{yes}, []int{0}}, {bools{}, bools{no, yes, yes, no}, []int{1, 2}},
		{bools{no}, bools{no}, nil}, {bools{no}, bools{yes}, []int{0}}, {bools{yes}, bools{no}, nil}, {bools{yes}, bools{yes}, nil},
		{bools{no, no, yes, yes}, bools{no, yes, no, yes}, []int{1}},
		{bools{yes, yes, no, no}, bools{yes, no, yes, no}, []int{2}},
		{bools{no, no, no, no}, bools{yes, yes, yes, yes}, []int{0, 1, 2, 3}},
		{bools{yes, yes, yes, yes}, bools{yes, yes, yes, yes}, nil},
		{bools{yes, yes, yes, yes}, bools{no, no, no, no}, nil},
		{bools{no, no, no, no}, bools{no, no, no, no}, nil},
		{bools{yes, no}, bools{yes, yes, yes, no, yes}, []int{1, 2, 4}},
		{bools{yes}, bools{no, no, no}, nil}, {bools{yes}, bools{yes, yes, yes}, []int{1, 2}},
		{bools{no, yes, no, yes, no}, bools{yes, yes}, []int{0}},
		{bools{yes, no, yes, no}, bools{no, yes}, []int{1}}, {bools{yes, yes, no}, bools{yes, yes}, nil},
	} {
		edgy(t, c.was, c.now, c.want...)
	}
}

// P13.2: Edge of all lists of up to five, against what the promise says.
func TestEdgeAll(t *testing.T) {
	var all [][]bool
	for long := range 6 {
		for bits := range 1 << long {
			l := make([]bool, long)
			for i := range l {
				l[i] = bits>>i&1 == 1
			}
			all = append(all, l)
		}
	}
	for _, was := range all {
		for _, now := range all {
			var want []int
			for i := range now {
				is, ahead := now[i], false
				if i < len(was) {
					ahead = was[i]
				}
				if is && !ahead {
					want = append(want, i)
				}
			}
			if got := Edge(was, now); !slices.Equal(got, want) {
				t.Fatalf("Edge(%v, %v) = %v, not %v", was, now, got, want)
			}
		}
	}
}

// P13.2: Edge of long lists: the places rise, each of them.
func TestEdgeLong(t *testing.T) {
	was, now := make([]bool, 1000), make([]bool, 3000)
	var want []int
	for i := range now {
		now[i] = i%3 != 0
		if i < len(was) {
			was[i] = i%2 == 0
		}
		if i%3 != 0 && (i >= 1000 || i%2 == 1) {
			want = append(want, i)
		}
	}
	edgy(t, was, now, want...)
	edgy(t, now, now)
	edgy(t, now, was[:3], 0)
}

// P13.2: Code of each signal, by the promise; 0 outside.
func TestCode(t *testing.T) {
	numbers := append(edges(), 3, 13, 14, 15, 16, 31, -14, -15, -16)
	for n := range 20 {
		numbers = append(numbers, n-2)
	}
	for _, channel := range numbers {
		for _, signal := range numbers {
			want := 0
			if (channel == 0 || channel == 1) && signal >= 0 && signal <= 14 {
				want = 1 + 16*channel + signal
			}
			for range 2 {
				if got := Code(channel, signal); got != want {
					t.Fatalf("Code(%d, %d) = %d, not %d", channel, signal, got, want)
				}
			}
		}
	}
}

// P13.2: codes by hand, at the ends.
func TestCodeByHand(t *testing.T) {
	for _, c := range []struct{ channel, signal, code int }{
		{0, 0, 1}, {0, 1, 2}, {0, 4, 5}, {0, 14, 15}, {1, 0, 17}, {1, 1, 18}, {1, 4, 21}, {1, 14, 31},
		{0, 15, 0}, {1, 15, 0}, {0, -1, 0}, {1, -1, 0}, {2, 0, 0}, {2, 14, 0}, {-1, 0, 0}, {-1, 14, 0},
		{math.MinInt, 0, 0}, {math.MaxInt, 0, 0}, {0, math.MinInt, 0}, {0, math.MaxInt, 0}, {1, math.MinInt, 0}, {1, math.MaxInt, 0},
		{math.MinInt, math.MinInt, 0}, {math.MaxInt, math.MaxInt, 0}, {math.MinInt, 14, 0}, {1 << 60, 3, 0},
	} {
		if got := Code(c.channel, c.signal); got != c.code {
			t.Errorf("Code(%d, %d) = %d, not %d", c.channel, c.signal, got, c.code)
		}
	}
}

// P13.3: no two signals have one code, and each code is one that Raise takes.
func TestCodeApart(t *testing.T) {
	var l []api.Record
	for channel := range 2 {
		for signal := range 15 {
			code := Code(channel, signal)
			if code < 1 || code > mostCode {
				t.Errorf("Code(%d, %d) = %d", channel, signal, code)
			}
			if r, there := Find(l, code); there {
				t.Errorf("Code(%d, %d) = %d, of which there is %v", channel, signal, code, r)
			}
			next, err := Raise(l, code)
			if err != api.OK {
				t.Errorf("Raise of Code(%d, %d) = %d: %d", channel, signal, code, err)
			}
			l = next
		}
	}
	if len(l) != 30 || !rises(l) {
		t.Errorf("%d records: %v", len(l), l)
	}
}
