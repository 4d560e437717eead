package store

import (
	"math"
	"slices"
	"testing"

	"turbojet/api"
	"turbojet/nvm"
)

// The chapter's numbers.
const (
	errArg     = 1
	errPower   = 110
	errFull    = 120
	errStore   = 121
	mostCode   = 255
	mostOften  = 65535
	mostWords  = 512
	mostNumber = 1 << 31
	putWrites  = 5
)

// spot is a good place, by the chapter's words.
type spot struct {
	at     int
	number uint32
	record api.Record
}

// step is a write that should be done.
type step struct {
	i int
	w uint32
}

// wantGood are the good places among words, rising.
func wantGood(words []uint32) []spot {
	var l []spot
	for at := range len(words) / 4 {
		number, second, count, again := words[4*at], words[4*at+1], words[4*at+2], words[4*at+3]
		code, isLatched := second, false
		if second > 255 {
			code, isLatched = second-256, true
		}
		switch {
		case number != again, number == 0, number > mostNumber:
		case second > 511, code == 0, count == 0, count > mostOften:
		default:
			l = append(l, spot{at, number, api.Record{Code: int(code), Count: int(count), Latched: isLatched}})
		}
	}
	return l
}

// wantHolds are those of them that hold: each one that no other one of its code goes ahead of, less those that are too much.
func wantHolds(words []uint32) []spot {
	good := wantGood(words)
	var l []spot
	for _, p := range good {
		ahead := func(q spot) bool {
			return q.record.Code == p.record.Code && (q.number > p.number || q.number == p.number && q.at < p.at)
		}
		if !slices.ContainsFunc(good, ahead) {
			l = append(l, p)
		}
	}
	for len(l) > len(words)/4-1 {
		goes := -1
		for _, lets := range []func(p spot) bool{func(p spot) bool { return !p.record.Latched }, func(spot) bool { return true }} {
			for i, p := range l {
				if lets(p) && (goes < 0 || p.number < l[goes].number) {
					goes = i
				}
			}
			if goes >= 0 {
				break
			}
		}
		l = slices.Delete(l, goes, goes+1)
	}
	return l
}

// wantRecords are what words should be told as.
func wantRecords(words []uint32) []api.Record {
	var l []api.Record
	holds := wantHolds(words)
	for code := range mostCode + 1 {
		for _, p := range holds {
			if p.record.Code == code {
				l = append(l, p.record)
			}
		}
	}
	return l
}

// wantPut are the writes of Put, with power, or why there are none.
func wantPut(words []uint32, r api.Record) ([]step, api.Errno) {
	if r.Code < 1 || r.Code > mostCode || r.Count < 1 || r.Count > mostOften {
		return nil, errArg
	}
	var number uint32
	for _, p := range wantGood(words) {
		number = max(number, p.number)
	}
	if number == mostNumber {
		return nil, errFull
	}
	at := 0
	for slices.ContainsFunc(wantHolds(words), func(p spot) bool { return p.at == at }) {
		at++
	}
	second := uint32(r.Code)
	if r.Latched {
		second |= 256
	}
	return []step{{4 * at, 0}, {4*at + 1, second}, {4*at + 2, uint32(r.Count)}, {4*at + 3, number + 1}, {4 * at, number + 1}}, api.OK
}

// wantClear are the writes of Clear.
func wantClear(words []uint32) []step {
	var l []step
	for at := range len(words) / 4 {
		l = append(l, step{4 * at, 0})
	}
	return l
}

// done are words behind writes.
func done(words []uint32, l []step) []uint32 {
	words = slices.Clone(words)
	for _, s := range l {
		words[s.i] = s.w
	}
	return words
}

// blank is a memory of words that are 0.
func blank(t *testing.T, words int) *nvm.Memory {
	t.Helper()
	m, err := nvm.New(words)
	if err != api.OK {
		t.Fatalf("a memory of %d words: %d", words, err)
	}
	return m
}

// written is a memory of these words.
func written(t *testing.T, words []uint32) *nvm.Memory {
	t.Helper()
	m := blank(t, len(words))
	for i, w := range words {
		if err := m.Write(i, w); err != api.OK {
			t.Fatalf("word %d: %d", i, err)
		}
	}
	return m
}

// opened is a store of a memory.
func opened(t *testing.T, m *nvm.Memory) *Store {
	t.Helper()
	s, err := Open(m)
	if s == nil || err != api.OK {
		t.Fatalf("Open: %v, %d", s, err)
	}
	return s
}

// of is a store of a memory of these words, and the memory.
func of(t *testing.T, words []uint32) (*Store, *nvm.Memory) {
	t.Helper()
	m := written(t, words)
	return opened(t, m), m
}

// cut lets a power go.
func cut(t *testing.T, m *nvm.Memory) {
	t.Helper()
	m.Arm(0)
	if m.Write(0, 0xBAD) != errPower || !m.Down() {
		t.Fatal("the power is not gone")
	}
}

// dump are a memory's words.
func dump(t *testing.T, m *nvm.Memory) []uint32 {
	t.Helper()
	words := make([]uint32, m.Words())
	for i := range words {
		w, err := m.Read(i)
		if err != api.OK {
			t.Fatalf("word %d: %d", i, err)
		}
		words[i] = w
	}
	return words
}

// has holds a memory's words, and what its store tells, against what they should be.
func has(t *testing.T, when string, s *Store, m *nvm.Memory, words []uint32) {
	t.Helper()
	if got := dump(t, m); !slices.Equal(got, words) {
		t.Fatalf("%s: the words are %d, not %d", when, got, words)
	}
	tells(t, when, s, wantRecords(words)...)
}

// tells holds what a store tells against what it should.
func tells(t *testing.T, when string, s *Store, want ...api.Record) {
	t.Helper()
	if got := s.Records(); !slices.Equal(got, want) {
		t.Fatalf("%s: %v, not %v", when, got, want)
	}
}

// rec is a record that is not latched, lat one that is.
func rec(code, count int) api.Record { return api.Record{Code: code, Count: count} }
func lat(code, count int) api.Record { return api.Record{Code: code, Count: count, Latched: true} }

// four is a place's words.
func four(number uint32, r api.Record) []uint32 {
	second := uint32(r.Code)
	if r.Latched {
		second += 256
	}
	return []uint32{number, second, uint32(r.Count), number}
}

// row is places beside one another.
func row(places ...[]uint32) []uint32 { return slices.Concat(places...) }

// none is a place that is not good, of words that are easily told.
func none() []uint32 { return []uint32{0xA1, 0xB2, 0xC3, 0xD4} }

// draw is numbers of a short rule, below n.
type draw uint64

func (d *draw) below(n int) int {
	*d = *d*6364136223846793005 + 1442695040888963407
	return int(*d>>33) % n
}

// P12.1, P12.2: the chapter's numbers.
func TestNumbers(t *testing.T) {
	if api.ErrFull != errFull || api.ErrStore != errStore || api.ErrArg != errArg || api.ErrPower != errPower {
		t.Errorf("ErrFull is %d, ErrStore %d, ErrArg %d, ErrPower %d", api.ErrFull, api.ErrStore, api.ErrArg, api.ErrPower)
	}
	if api.MaxCode != mostCode || api.MaxOften != mostOften || api.MaxWords != mostWords || api.OK != 0 {
		t.Errorf("MaxCode is %d, MaxOften %d, MaxWords %d, OK %d", api.MaxCode, api.MaxOften, api.MaxWords, api.OK)
	}
}

// P12.1 to P12.4: the chapter's examples.
func TestExamples(t *testing.T) {
	m := blank(t, 12)
	s := opened(t, m)
	if s.Room() != 2 {
		t.Errorf("a Room of %d", s.Room())
	}
	for _, code := range []int{5, 7, 9} {
		if err := s.Put(rec(code, 1)); err != api.OK {
			t.Errorf("Put(%d, 1): %d", code, err)
		}
	}
	tells(t, "behind three", s, rec(7, 1), rec(9, 1))
	m.Arm(4)
	if err := s.Put(rec(9, 2)); err != errPower {
		t.Errorf("Put(9, 2): %d", err)
	}
	m.Up()
	tells(t, "behind the cut", opened(t, m), rec(7, 1), rec(9, 1))
}

// P12.1: Open of memories of as many words as may be, and Room: as many whole places as there are, less one.
func TestOpen(t *testing.T) {
	for _, c := range []struct{ words, room int }{{8, 1}, {9, 1}, {10, 1}, {11, 1}, {12, 2}, {13, 2}, {15, 2}, {16, 3}, {64, 15}, {508, 126}, {509, 126}, {511, 126}, {512, 127}} {
		m := blank(t, c.words)
		s := opened(t, m)
		for range 3 {
			if s.Room() != c.room {
				t.Errorf("%d words: a Room of %d, not %d", c.words, s.Room(), c.room)
			}
		}
		tells(t, "new", s)
		s.Put(rec(3, 4))
		cut(t, m)
		if s.Room() != c.room {
			t.Errorf("%d words: a Room of %d without power, not %d", c.words, s.Room(), c.room)
		}
	}
}

// P12.1: Open of memories that may not be: the error that comes first, and no store beside it.
func TestOpenBad(t *testing.T) {
	fails := func(when string, m *nvm.Memory, errno api.Errno) {
		t.Helper()
		if s, err := Open(m); s != nil || err != errno {
			t.Errorf("%s: %v, %d, not %d", when, s, err, errno)
		}
	}
	fails("no memory", nil, errArg)
	fails("one that New did not make", new(nvm.Memory), errStore)
	for words := range 8 {
		m := blank(t, words)
		fails("too few words", m, errStore)
		if words > 0 {
			cut(t, m)
			fails("too few words, without power", m, errPower)
			m.Up()
			fails("too few words, with power again", m, errStore)
		}
	}
	for _, words := range []int{8, 9, 11, 12, 64, mostWords} {
		m := blank(t, words)
		cut(t, m)
		fails("without power", m, errPower)
		m.Up()
		opened(t, m)
	}
}

// P12.1: Open, Records and Room write nothing: a power that is about to go stays, and the words are as they were.
func TestWriteNothing(t *testing.T) {
	words := row(four(3, rec(5, 1)), none(), four(7, lat(6, 2)), []uint32{1, 2, 3})
	m := written(t, words)
	m.Arm(0)
	many := m.Many()
	s := opened(t, m)
	for range 10 {
		tells(t, "armed", s, rec(5, 1), lat(6, 2))
		if s.Room() != 2 || opened(t, m).Room() != 2 {
			t.Errorf("a Room of %d", s.Room())
		}
	}
	if m.Down() || m.Many() != many {
		t.Errorf("gone %v, %d writes, not %d", m.Down(), m.Many(), many)
	}
	has(t, "behind all", s, m, words)
}

// P12.1, P12.3: memories whose words were written ahead are what they hold; words beyond the last whole place are none's.
func TestOpenWritten(t *testing.T) {
	beyond := four(1, rec(77, 7))
	for _, c := range []struct {
		words []uint32
		want  []api.Record
	}{
		{make([]uint32, 8), nil},
		{row(none(), none()), nil},
		{row(four(1, rec(9, 8)), none()), []api.Record{rec(9, 8)}},
		{row(none(), four(1, rec(9, 8))), []api.Record{rec(9, 8)}},
		{row(none(), four(1, rec(9, 8)), beyond[:3]), []api.Record{rec(9, 8)}},
		{row(none(), none(), beyond[:3]), nil},
		{row(none(), none(), beyond), []api.Record{rec(77, 7)}},
		{row(four(5, rec(9, 8)), four(4, lat(3, 2)), none()), []api.Record{lat(3, 2), rec(9, 8)}},
		{row([]uint32{1}, four(1, rec(9, 8)), none()[:3]), nil},
	} {
		s, m := of(t, c.words)
		tells(t, "opened", s, c.want...)
		has(t, "opened", s, m, c.words)
	}
}

// P12.3: the numbers with which a place is good, and those with which it is not.
func TestGoodNumber(t *testing.T) {
	for _, c := range []struct {
		first, fourth uint32
		good          bool
	}{
		{1, 1, true}, {2, 2, true}, {7, 7, true}, {1 << 16, 1 << 16, true}, {1<<31 - 1, 1<<31 - 1, true}, {1 << 31, 1 << 31, true},
		{0, 0, false}, {1<<31 + 1, 1<<31 + 1, false}, {3 << 30, 3 << 30, false}, {math.MaxUint32 - 1, math.MaxUint32 - 1, false}, {math.MaxUint32, math.MaxUint32, false},
		{1, 2, false}, {2, 1, false}, {0, 1, false}, {1, 0, false}, {7, 0, false}, {0, 7, false}, {1, 1<<31 + 1, false}, {1<<31 + 1, 1, false}, {1, 257, false}, {1, 65537, false}, {65537, 1, false}, {1 << 31, 0, false}, {0, 1 << 31, false}, {1 << 31, 1<<31 - 1, false}, {math.MaxUint32, 1, false},
	} {
		for at := range 3 {
			words := slices.Concat(make([]uint32, 12), none()[:2])
			copy(words[4*at:], []uint32{c.first, 5, 6, c.fourth})
			s, m := of(t, words)
			var want []api.Record
			if c.good {
				want = []api.Record{rec(5, 6)}
			}
			if got := s.Records(); !slices.Equal(got, want) {
				t.Errorf("the numbers %d and %d: %v", c.first, c.fourth, got)
			}
			has(t, "numbers", s, m, words)
		}
	}
}

// P12.3: the second words, and the Counts, with which a place is good, and those with which it is not.
func TestGoodRecord(t *testing.T) {
	type two struct{ second, count uint32 }
	cases := map[two]api.Record{
		{1, 1}: rec(1, 1), {2, 1}: rec(2, 1), {128, 1}: rec(128, 1), {254, 9}: rec(254, 9), {255, 1}: rec(255, 1),
		{257, 1}: lat(1, 1), {258, 3}: lat(2, 3), {510, 1}: lat(254, 1), {511, 1}: lat(255, 1),
		{1, 2}: rec(1, 2), {1, 255}: rec(1, 255), {1, 256}: rec(1, 256), {1, 65534}: rec(1, 65534), {1, 65535}: rec(1, 65535), {511, 65535}: lat(255, 65535),
	}
	for _, second := range []uint32{0, 256, 512, 513, 767, 768, 769, 1024, 1025, 1 << 16, 1<<16 + 5, 1<<31 + 5, 1<<31 + 261, math.MaxUint32 - 255, math.MaxUint32} {
		cases[two{second, 1}] = api.Record{}
	}
	for _, count := range []uint32{0, 65536, 65537, 1 << 17, 1 << 31, 1<<31 + 1, math.MaxUint32 - 1, math.MaxUint32} {
		cases[two{1, count}] = api.Record{}
		cases[two{511, count}] = api.Record{}
	}
	cases[two{0, 0}], cases[two{512, 65536}] = api.Record{}, api.Record{}
	for c, r := range cases {
		words := row(none(), []uint32{9, c.second, c.count, 9}, none()[:3])
		s, m := of(t, words)
		var want []api.Record
		if r.Code != 0 {
			want = []api.Record{r}
		}
		if got := s.Records(); !slices.Equal(got, want) {
			t.Errorf("the words %d and %d: %v, not %v", c.second, c.count, got, want)
		}
		has(t, "words", s, m, words)
	}
}

// P12.3: of all Codes, latched or not, one alone.
func TestCodes(t *testing.T) {
	for code := 1; code <= mostCode; code++ {
		for _, r := range []api.Record{rec(code, code), lat(code, mostOften-code)} {
			s, _ := of(t, row(none(), four(uint32(code)<<20, r)))
			tells(t, "one alone", s, r)
			s, m := of(t, row(none(), none()))
			if err := s.Put(r); err != api.OK {
				t.Errorf("Put(%v): %d", r, err)
			}
			has(t, "put", s, m, row(four(1, r), none()))
		}
	}
}

// P12.3: a place that is not good goes ahead of none of its code, whatever its number is.
func TestBadGoesAheadOfNone(t *testing.T) {
	for _, bad := range [][]uint32{{9, 5, 0, 9}, {9, 5, 65536, 9}, {9, 5, 1, 8}, {8, 5, 1, 9}, {9, 517, 1, 9}, {1<<31 + 1, 5, 1, 1<<31 + 1}, {0, 5, 1, 0}, {math.MaxUint32, 5, 1, math.MaxUint32}} {
		for _, words := range [][]uint32{row(bad, four(3, rec(5, 7)), none()), row(none(), four(3, rec(5, 7)), bad)} {
			s, m := of(t, words)
			tells(t, "beside a bad one", s, rec(5, 7))
			has(t, "beside a bad one", s, m, words)
			if err := s.Put(rec(6, 6)); err != api.OK {
				t.Errorf("Put beside %d: %d", bad, err)
			}
			has(t, "put beside a bad one", s, m, row(four(4, rec(6, 6)), words[4:]))
		}
	}
}

// P12.3: of two good places of one Code the one of the greater number holds, at whichever place; of the same number the one at the lesser place.
func TestTwice(t *testing.T) {
	old, now, more := rec(5, 1), lat(5, 2), rec(5, 3)
	for _, c := range []struct {
		words []uint32
		want  api.Record
	}{
		{row(four(1, old), four(2, now)), now},
		{row(four(2, old), four(1, now)), old},
		{row(four(2, now), four(2, old)), now},
		{row(four(2, old), four(2, now)), old},
		{row(four(1<<31, now), four(1<<31, old), none()), now},
		{row(four(1<<31-1, now), four(1<<31, old), none()), old},
		{row(four(1<<31, now), four(1<<31-1, old), none()), now},
		{row(four(1, now), four(1<<30, old), none()), old},
		{row(none(), four(1, old), none(), four(2, now)), now},
		{row(none(), four(2, old), none(), four(1, now)), old},
		{row(none(), four(2, now), none(), four(2, old)), now},
		{row(four(1, old), four(2, now), four(3, more)), more},
		{row(four(3, old), four(2, now), four(1, more)), old},
		{row(four(1, old), four(3, now), four(2, more)), now},
		{row(four(2, old), four(3, now), four(1, more)), now},
		{row(four(2, old), four(1, now), four(3, more)), more},
		{row(four(2, old), four(3, now), four(3, more)), now},
		{row(four(3, old), four(2, now), four(3, more)), old},
		{row(four(3, old), four(3, now), four(3, more)), old},
		{row(four(3, more), four(3, now), four(3, old), four(2, now)), more},
		{row(four(7, old), four(8, now), four(8, more), four(9, now), four(9, old), four(7, more)), now},
	} {
		s, m := of(t, c.words)
		tells(t, "one code", s, c.want)
		has(t, "one code", s, m, c.words)
	}
}

// P12.3: those of one Code that do not hold take no room of others.
func TestTwiceBesideOthers(t *testing.T) {
	words := row(four(4, rec(5, 1)), four(2, rec(9, 4)), four(6, lat(5, 2)), four(3, lat(9, 3)), four(1, rec(2, 1)), four(5, rec(5, 9)))
	s, m := of(t, words)
	tells(t, "three codes in six places", s, rec(2, 1), lat(5, 2), lat(9, 3))
	has(t, "three codes in six places", s, m, words)
}

// P12.3: of too many codes the one of the least number goes that is not latched; of all of them, if all are latched; of the same number the one at the least place.
func TestTooMany(t *testing.T) {
	for _, c := range []struct {
		words []uint32
		want  []api.Record
	}{
		{row(four(1, rec(5, 1)), four(2, rec(7, 1))), []api.Record{rec(7, 1)}},
		{row(four(2, rec(5, 1)), four(1, rec(7, 1))), []api.Record{rec(5, 1)}},
		{row(four(2, rec(5, 1)), four(2, rec(7, 1))), []api.Record{rec(7, 1)}},
		{row(four(2, rec(7, 1)), four(2, rec(5, 1))), []api.Record{rec(5, 1)}},
		{row(four(1, lat(5, 1)), four(2, rec(7, 1))), []api.Record{lat(5, 1)}},
		{row(four(2, rec(7, 1)), four(1, lat(5, 1))), []api.Record{lat(5, 1)}},
		{row(four(2, rec(7, 1)), four(2, lat(5, 1))), []api.Record{lat(5, 1)}},
		{row(four(2, lat(5, 1)), four(2, rec(7, 1))), []api.Record{lat(5, 1)}},
		{row(four(1<<31, rec(7, 1)), four(1, lat(5, 1))), []api.Record{lat(5, 1)}},
		{row(four(1, lat(5, 1)), four(2, lat(7, 1))), []api.Record{lat(7, 1)}},
		{row(four(2, lat(5, 1)), four(1, lat(7, 1))), []api.Record{lat(5, 1)}},
		{row(four(2, lat(5, 1)), four(2, lat(7, 1))), []api.Record{lat(7, 1)}},
		{row(four(2, lat(7, 1)), four(2, lat(5, 1))), []api.Record{lat(5, 1)}},
		{row(four(3, rec(9, 1)), four(1, rec(5, 1)), four(2, rec(7, 1))), []api.Record{rec(7, 1), rec(9, 1)}},
		{row(four(1, rec(9, 1)), four(3, rec(5, 1)), four(2, rec(7, 1))), []api.Record{rec(5, 1), rec(7, 1)}},
		{row(four(2, rec(9, 1)), four(3, rec(5, 1)), four(1, rec(7, 1))), []api.Record{rec(5, 1), rec(9, 1)}},
		{row(four(5, rec(9, 1)), four(3, rec(5, 1)), four(3, rec(7, 1))), []api.Record{rec(7, 1), rec(9, 1)}},
		{row(four(1, lat(9, 1)), four(3, rec(5, 1)), four(2, rec(7, 1))), []api.Record{rec(5, 1), lat(9, 1)}},
		{row(four(1, lat(9, 1)), four(2, lat(5, 1)), four(3, rec(7, 1))), []api.Record{lat(5, 1), lat(9, 1)}},
		{row(four(1, lat(9, 1)), four(1, lat(5, 1)), four(1, rec(7, 1))), []api.Record{lat(5, 1), lat(9, 1)}},
		{row(four(1, lat(9, 1)), four(3, lat(5, 1)), four(2, lat(7, 1))), []api.Record{lat(5, 1), lat(7, 1)}},
		{row(four(4, lat(9, 1)), four(3, lat(5, 1)), four(3, lat(7, 1))), []api.Record{lat(7, 1), lat(9, 1)}},
		{row(four(4, lat(9, 1)), four(3, lat(5, 1)), none()[:3]), []api.Record{lat(9, 1)}},
		{row(four(4, lat(9, 1)), four(3, lat(5, 1)), none()), []api.Record{lat(5, 1), lat(9, 1)}},
	} {
		s, m := of(t, c.words)
		tells(t, "too many", s, c.want...)
		has(t, "too many", s, m, c.words)
	}
}

// P12.3: in memories of all sizes, of as many codes as places, at whichever place the one stands that goes.
func TestTooManyWhich(t *testing.T) {
	for _, places := range []int{2, 3, 4, 16, 127, 128} {
		for goes := range places {
			for _, only := range []bool{true, false} {
				var words []uint32
				var want []api.Record
				for at := range places {
					r := api.Record{Code: at + 1, Count: at + 1, Latched: only && at != goes}
					number := uint32(2*places - at)
					if at == goes {
						number = map[bool]uint32{true: 1 << 20, false: 1}[only]
					} else {
						want = append(want, r)
					}
					words = append(words, four(number, r)...)
				}
				s, _ := of(t, words)
				tells(t, "all places good", s, want...)
			}
		}
	}
}

// badRecords are records that may not be put.
func badRecords() []api.Record {
	var l []api.Record
	for _, code := range []int{0, -1, -2, -255, -256, 256, 257, 511, 512, 65536, 65537, 1 << 32, 1<<32 + 1, -1<<32 + 1, math.MinInt, math.MinInt + 1, math.MaxInt - 1, math.MaxInt} {
		l = append(l, rec(code, 1), lat(code, 1), rec(code, mostOften), rec(code, 0))
	}
	for _, count := range []int{0, -1, -2, -65535, 65536, 65537, 131072, 1 << 32, 1<<32 + 1, -1<<32 + 1, math.MinInt, math.MinInt + 1, math.MaxInt - 1, math.MaxInt} {
		l = append(l, rec(1, count), lat(1, count), rec(mostCode, count), rec(256, count))
	}
	return l
}

// P12.2: records that may not be are ErrArg, ahead of all else, and change nothing.
func TestPutBad(t *testing.T) {
	for _, number := range []uint32{1, 1<<31 - 1, 1 << 31} {
		words := row(four(number, rec(5, 1)), none(), none(), none()[:1])
		s, m := of(t, words)
		many := m.Many()
		for _, r := range badRecords() {
			if err := s.Put(r); err != errArg {
				t.Errorf("Put(%v), number %d: %d", r, number, err)
			}
		}
		m.Arm(0)
		for _, r := range badRecords() {
			if err := s.Put(r); err != errArg || m.Down() {
				t.Errorf("Put(%v), number %d, no writes left: %d, gone %v", r, number, err, m.Down())
			}
		}
		cut(t, m)
		for _, r := range badRecords() {
			if err := s.Put(r); err != errArg {
				t.Errorf("Put(%v), number %d, without power: %d", r, number, err)
			}
		}
		m.Up()
		if m.Many() != many {
			t.Errorf("%d writes, not %d", m.Many(), many)
		}
		has(t, "behind bad ones", s, m, words)
	}
}

// goodRecords are records at the ends of what may be put.
func goodRecords() []api.Record {
	var l []api.Record
	for _, code := range []int{1, 2, 127, 128, 254, 255} {
		for _, count := range []int{1, 2, 255, 256, 257, 65534, 65535} {
			l = append(l, rec(code, count), lat(code, count))
		}
	}
	return l
}

// P12.2: records at the ends of what may be are put, with power, and are what Records tells; without power they are ErrPower, and change nothing.
func TestPutEnds(t *testing.T) {
	for _, r := range goodRecords() {
		s, m := of(t, row(none(), none()))
		cut(t, m)
		many := m.Many()
		for range 3 {
			if err := s.Put(r); err != errPower || !m.Down() || m.Many() != many {
				t.Errorf("Put(%v) without power: %d, gone %v, %d writes", r, err, m.Down(), m.Many())
			}
		}
		m.Up()
		has(t, "put without power", s, m, row(none(), none()))
		if err := s.Put(r); err != api.OK || m.Many() != many+putWrites {
			t.Errorf("Put(%v): %d, %d writes", r, err, m.Many())
		}
		tells(t, "put", s, r)
		has(t, "put", s, m, row(four(1, r), none()))
	}
}

// P12.2: where the greatest number of a good place is 2^31 it is ErrFull, whether that place holds or not, and behind ErrPower; one below, the number 2^31 is put yet.
func TestPutFull(t *testing.T) {
	const last, ahead = 1 << 31, 1<<31 - 1
	for _, words := range [][]uint32{
		row(four(last, rec(5, 1)), none()),
		row(none(), four(last, lat(5, 1))),
		row(four(1, rec(6, 1)), four(last, rec(5, 1))),
		row(four(last, rec(5, 1)), four(last, rec(5, 2)), none()),
		row(four(1, lat(6, 1)), four(last, rec(5, 1))),
		row(four(last, rec(5, 1)), four(1, lat(6, 1)), four(2, lat(7, 1))),
		row(none(), none(), none(), four(last, rec(1, 1)), none()[:2]),
	} {
		s, m := of(t, words)
		many := m.Many()
		m.Arm(0)
		for _, r := range append(goodRecords(), rec(5, 1), rec(6, 1)) {
			if err := s.Put(r); err != errFull || m.Down() || m.Many() != many {
				t.Errorf("Put(%v) into %d: %d, gone %v", r, words, err, m.Down())
			}
		}
		cut(t, m)
		if err := s.Put(rec(5, 1)); err != errPower {
			t.Errorf("Put into %d without power: %d", words, err)
		}
		m.Up()
		has(t, "full", s, m, words)
		if err := s.Clear(); err != api.OK {
			t.Errorf("Clear: %d", err)
		}
		if err := s.Put(rec(5, 9)); err != api.OK {
			t.Errorf("Put behind Clear: %d", err)
		}
		tells(t, "put behind Clear", s, rec(5, 9))
		if w, _ := m.Read(0); w != 1 {
			t.Errorf("behind Clear the number is %d", w)
		}
	}
	s, m := of(t, row(none(), four(ahead, rec(5, 1)), four(last+1, rec(6, 1))))
	if err := s.Put(rec(5, 2)); err != api.OK {
		t.Errorf("the last one: %d", err)
	}
	words := row(four(last, rec(5, 2)), four(ahead, rec(5, 1)), four(last+1, rec(6, 1)))
	has(t, "the last one", s, m, words)
	if err := s.Put(rec(5, 3)); err != errFull {
		t.Errorf("beyond the last one: %d", err)
	}
	has(t, "beyond the last one", s, m, words)
}

// P12.2: Put goes into the first place that does not hold, with a number one greater than the greatest of any good place, whether that one holds or not; and no other word is touched.
func TestPutPlace(t *testing.T) {
	r := lat(9, 65535)
	for _, c := range []struct {
		name          string
		words         []uint32
		at            int
		number        uint32
		before, after []api.Record
	}{
		{"none", make([]uint32, 12), 0, 1, nil, []api.Record{r}},
		{"none good", row(none(), none(), none()), 0, 1, nil, []api.Record{r}},
		{"the second one", row(four(3, rec(5, 1)), none(), none()), 1, 4, []api.Record{rec(5, 1)}, []api.Record{rec(5, 1), r}},
		{"the third one", row(four(3, rec(5, 1)), four(8, rec(6, 1)), none()), 2, 9, []api.Record{rec(5, 1), rec(6, 1)}, []api.Record{rec(6, 1), r}},
		{"between", row(four(3, rec(5, 1)), none(), four(8, rec(6, 1))), 1, 9, []api.Record{rec(5, 1), rec(6, 1)}, []api.Record{rec(6, 1), r}},
		{"ahead of all", row(none(), four(8, rec(5, 1)), four(3, rec(6, 1))), 0, 9, []api.Record{rec(5, 1), rec(6, 1)}, []api.Record{rec(5, 1), r}},
		{"an older one of a code", row(four(3, rec(5, 1)), four(2, rec(5, 2)), none()), 1, 4, []api.Record{rec(5, 1)}, []api.Record{rec(5, 1), r}},
		{"not its own code's", row(four(3, rec(9, 1)), none(), none()), 1, 4, []api.Record{rec(9, 1)}, []api.Record{r}},
		{"its own code's older one", row(four(3, rec(9, 1)), four(4, rec(9, 2)), none()), 0, 5, []api.Record{rec(9, 2)}, []api.Record{r}},
		{"of the same number", row(four(4, rec(9, 1)), four(4, rec(9, 2)), none()), 1, 5, []api.Record{rec(9, 1)}, []api.Record{r}},
		{"too much", row(four(8, rec(5, 1)), four(4, rec(6, 1)), four(5, rec(7, 1))), 1, 9, []api.Record{rec(5, 1), rec(7, 1)}, []api.Record{rec(5, 1), r}},
		{"too much, with the greatest number", row(four(1, lat(5, 1)), four(8, rec(6, 1)), four(2, lat(7, 1))), 1, 9, []api.Record{lat(5, 1), lat(7, 1)}, []api.Record{lat(7, 1), r}},
		{"too much, of the same number", row(four(4, lat(5, 1)), four(4, rec(6, 1)), four(4, rec(7, 1))), 1, 5, []api.Record{lat(5, 1), rec(7, 1)}, []api.Record{lat(5, 1), r}},
		{"numbers that are not good", row(four(4, rec(5, 1)), []uint32{9, 0, 1, 9}, []uint32{70, 6, 1, 71}), 1, 5, []api.Record{rec(5, 1)}, []api.Record{rec(5, 1), r}},
		{"beyond the last place", row(four(4, rec(5, 1)), four(6, rec(6, 1)), none()[:3]), 0, 7, []api.Record{rec(6, 1)}, []api.Record{r}},
	} {
		s, m := of(t, c.words)
		tells(t, c.name, s, c.before...)
		many := m.Many()
		if err := s.Put(r); err != api.OK || m.Many() != many+putWrites {
			t.Errorf("%s: %d, %d writes", c.name, err, m.Many()-many)
		}
		words := slices.Clone(c.words)
		copy(words[4*c.at:], four(c.number, r))
		has(t, c.name, s, m, words)
		tells(t, c.name, s, c.after...)
	}
}

// P12.2: a cut at each of Put's writes: the words are written in the order 1, 2, 3, 4, 1, the first one as 0 at first; where one fails its error is told, and no more are written.
func TestPutCut(t *testing.T) {
	words := row(four(8, rec(5, 1)), none(), four(3, lat(6, 2)), none()[:2])
	for _, c := range []struct {
		left int
		spot []uint32
	}{
		{0, []uint32{0xA1, 0xB2, 0xC3, 0xD4}},
		{1, []uint32{0, 0xB2, 0xC3, 0xD4}},
		{2, []uint32{0, 263, 0xC3, 0xD4}},
		{3, []uint32{0, 263, 65535, 0xD4}},
		{4, []uint32{0, 263, 65535, 9}},
		{5, []uint32{9, 263, 65535, 9}},
		{6, []uint32{9, 263, 65535, 9}},
	} {
		s, m := of(t, words)
		many := m.Many()
		m.Arm(c.left)
		err := s.Put(lat(7, 65535))
		if fails := c.left < putWrites; fails && err != errPower || !fails && err != api.OK || m.Down() != fails {
			t.Errorf("%d writes left: %d, gone %v", c.left, err, m.Down())
		}
		if m.Many() != many+min(c.left, putWrites) {
			t.Errorf("%d writes left: %d were done", c.left, m.Many()-many)
		}
		if m.Down() {
			tells(t, "without power", s)
		}
		m.Up()
		after := slices.Clone(words)
		copy(after[4:], c.spot)
		has(t, "with power again", s, m, after)
		has(t, "opened again", opened(t, m), m, after)
		if err := s.Put(lat(7, 65535)); err != api.OK {
			t.Errorf("%d writes left: with power again: %d", c.left, err)
		}
		tells(t, "put with power again", s, lat(6, 2), lat(7, 65535))
	}
}

// P12.2: Clear writes a 0 into the first word of each place, and nothing else; and nothing is told any more.
func TestClear(t *testing.T) {
	for _, words := range [][]uint32{
		make([]uint32, 8),
		row(none(), none()),
		row(four(8, rec(5, 1)), none()),
		row(four(8, rec(5, 1)), four(9, lat(6, 65535)), four(7, rec(5, 2))),
		row(four(8, rec(5, 1)), four(9, lat(6, 65535)), none()[:1]),
		row(four(8, rec(5, 1)), four(9, lat(6, 65535)), none()[:2]),
		row(four(8, rec(5, 1)), four(9, lat(6, 65535)), none()[:3]),
		row(four(1<<31, rec(5, 1)), four(math.MaxUint32, lat(6, 65535)), none()),
	} {
		s, m := of(t, words)
		many := m.Many()
		if err := s.Clear(); err != api.OK || m.Many() != many+len(words)/4 {
			t.Errorf("Clear of %d: %d, %d writes", words, err, m.Many()-many)
		}
		tells(t, "cleared", s)
		after := slices.Clone(words)
		for i := 0; i+3 < len(after); i += 4 {
			after[i] = 0
		}
		has(t, "cleared", s, m, after)
		if err := s.Clear(); err != api.OK {
			t.Errorf("Clear again: %d", err)
		}
		has(t, "cleared again", s, m, after)
		if err := s.Put(rec(3, 3)); err != api.OK {
			t.Errorf("Put behind Clear: %d", err)
		}
		copy(after, four(1, rec(3, 3)))
		has(t, "put behind Clear", s, m, after)
	}
	s, m := of(t, slices.Repeat([]uint32{7, 8, 9, 7}, 128))
	if err := s.Clear(); err != api.OK {
		t.Errorf("Clear of all words: %d", err)
	}
	has(t, "all words cleared", s, m, slices.Repeat([]uint32{0, 8, 9, 7}, 128))
}

// P12.2: a cut at each of Clear's writes: the places are cleared rising; where one fails its error is told, and no more are.
func TestClearCut(t *testing.T) {
	words := row(four(4, rec(5, 1)), none(), four(3, lat(6, 2)), four(2, rec(5, 9)), four(1, lat(7, 1)), none()[:3])
	records := [][]api.Record{
		{rec(5, 1), lat(6, 2), lat(7, 1)},
		{rec(5, 9), lat(6, 2), lat(7, 1)},
		{rec(5, 9), lat(6, 2), lat(7, 1)},
		{rec(5, 9), lat(7, 1)},
		{lat(7, 1)},
		nil,
		nil,
	}
	for left, want := range records {
		s, m := of(t, words)
		many := m.Many()
		m.Arm(left)
		err := s.Clear()
		if fails := left < 5; fails && err != errPower || !fails && err != api.OK || m.Down() != fails {
			t.Errorf("%d writes left: %d, gone %v", left, err, m.Down())
		}
		if m.Many() != many+min(left, 5) {
			t.Errorf("%d writes left: %d were done", left, m.Many()-many)
		}
		m.Up()
		has(t, "with power again", s, m, done(words, wantClear(words)[:min(left, 5)]))
		tells(t, "with power again", s, want...)
		tells(t, "opened again", opened(t, m), want...)
	}
	s, m := of(t, words)
	cut(t, m)
	for range 2 {
		if err := s.Clear(); err != errPower {
			t.Errorf("Clear without power: %d", err)
		}
	}
	m.Up()
	has(t, "cleared without power", s, m, words)
}

// P12.3: Records rise by Code, of none, of one, and of as many as there is room, in whichever order they were put; none without power; and the same again and again.
func TestRecords(t *testing.T) {
	for _, places := range []int{2, 3, 4, 16, 128} {
		m := blank(t, 4*places)
		s := opened(t, m)
		var want []api.Record
		for n := range places {
			for range 3 {
				tells(t, "with power", s, want...)
				tells(t, "opened again", opened(t, m), want...)
			}
			cut(t, m)
			for range 3 {
				if got := s.Records(); len(got) != 0 {
					t.Errorf("without power: %v", got)
				}
			}
			m.Up()
			tells(t, "with power again", s, want...)
			if n == places-1 {
				break
			}
			r := api.Record{Code: 1 + n*101%mostCode, Count: 1 + n, Latched: n%3 == 0}
			if err := s.Put(r); err != api.OK {
				t.Errorf("Put(%v): %d", r, err)
			}
			want = append(want, r)
			slices.SortFunc(want, func(a, b api.Record) int { return a.Code - b.Code })
		}
		if len(want) != s.Room() {
			t.Errorf("%d records, a Room of %d", len(want), s.Room())
		}
	}
}

// R4: what Records answers is new memory, its spare room too: what is done to it is seen nowhere.
func TestRecordsNew(t *testing.T) {
	s, m := of(t, row(four(1, rec(5, 1)), four(2, lat(6, 2)), four(3, rec(7, 3)), none(), none(), none()))
	words, want := dump(t, m), []api.Record{rec(5, 1), lat(6, 2), rec(7, 3)}
	for range 3 {
		one, two := s.Records(), s.Records()
		one = one[:cap(one)]
		for i := range one {
			one[i] = lat(99, 99)
		}
		if !slices.Equal(two, want) {
			t.Errorf("another answer became %v", two)
		}
		two = append(two[:1], rec(1, 1), rec(2, 2), rec(3, 3))
		has(t, "behind what was done to answers", s, m, words)
		if one[0] != lat(99, 99) {
			t.Errorf("an answer became %v", one)
		}
	}
}

// P12.2: a record is put again: of its own code, as often as there are numbers, and whether more or less; one that is latched may be put as one that is not.
func TestPutAgain(t *testing.T) {
	s, m := of(t, row(none(), none(), none()))
	for n, r := range []api.Record{rec(5, 1), rec(5, 2), lat(5, 3), rec(5, 3), rec(5, 1), rec(5, 1), lat(5, 65535), lat(5, 1)} {
		steps, _ := wantPut(dump(t, m), r)
		words := done(dump(t, m), steps)
		if err := s.Put(r); err != api.OK {
			t.Errorf("Put(%v): %d", r, err)
		}
		has(t, "put again", s, m, words)
		tells(t, "put again", s, r)
		if w, _ := m.Read(4 * (n % 2)); w != uint32(n+1) {
			t.Errorf("Put %d: the number is %d", n, w)
		}
	}
}

// P12.4: a store that is full lets go of the oldest one that is not latched; of the oldest one, if all are; and of the new one, if it alone is not.
func TestFullStore(t *testing.T) {
	for _, c := range []struct {
		put, want []api.Record
	}{
		{[]api.Record{rec(9, 1), rec(5, 1), rec(7, 1)}, []api.Record{rec(5, 1), rec(7, 1), rec(9, 1)}},
		{[]api.Record{rec(9, 1), rec(5, 1), rec(7, 1), rec(8, 1)}, []api.Record{rec(5, 1), rec(7, 1), rec(8, 1)}},
		{[]api.Record{rec(9, 1), rec(5, 1), rec(7, 1), rec(8, 1), rec(1, 1)}, []api.Record{rec(1, 1), rec(7, 1), rec(8, 1)}},
		{[]api.Record{rec(9, 1), rec(5, 1), rec(7, 1), rec(9, 2), rec(8, 1)}, []api.Record{rec(7, 1), rec(8, 1), rec(9, 2)}},
		{[]api.Record{rec(9, 1), rec(5, 1), rec(7, 1), lat(8, 1)}, []api.Record{rec(5, 1), rec(7, 1), lat(8, 1)}},
		{[]api.Record{lat(9, 1), rec(5, 1), rec(7, 1), rec(8, 1)}, []api.Record{rec(7, 1), rec(8, 1), lat(9, 1)}},
		{[]api.Record{lat(9, 1), rec(5, 1), lat(7, 1), rec(8, 1)}, []api.Record{lat(7, 1), rec(8, 1), lat(9, 1)}},
		{[]api.Record{lat(9, 1), lat(5, 1), rec(7, 1), lat(8, 1)}, []api.Record{lat(5, 1), lat(8, 1), lat(9, 1)}},
		{[]api.Record{lat(9, 1), lat(5, 1), lat(7, 1), lat(8, 1)}, []api.Record{lat(5, 1), lat(7, 1), lat(8, 1)}},
		{[]api.Record{lat(9, 1), lat(5, 1), lat(7, 1), lat(9, 2), lat(8, 1)}, []api.Record{lat(7, 1), lat(8, 1), lat(9, 2)}},
		{[]api.Record{lat(9, 1), lat(5, 1), lat(7, 1), rec(8, 1)}, []api.Record{lat(5, 1), lat(7, 1), lat(9, 1)}},
		{[]api.Record{lat(9, 1), lat(5, 1), lat(7, 1), rec(8, 1), rec(8, 2), lat(8, 3)}, []api.Record{lat(5, 1), lat(7, 1), lat(8, 3)}},
		{[]api.Record{lat(9, 1), lat(5, 1), lat(7, 1), rec(9, 1), rec(8, 1)}, []api.Record{lat(5, 1), lat(7, 1), rec(8, 1)}},
	} {
		m := blank(t, 17)
		s := opened(t, m)
		for _, r := range c.put {
			steps, errno := wantPut(dump(t, m), r)
			words := done(dump(t, m), steps)
			if err := s.Put(r); err != errno || err != api.OK {
				t.Errorf("Put(%v): %d", r, err)
			}
			has(t, "put", s, m, words)
		}
		tells(t, "full", s, c.want...)
		tells(t, "opened again", opened(t, m), c.want...)
	}
}

// P12.4: wherever the power goes in each Put of a long row, behind it, and Open, the records are those ahead of it, till the last write is done; and then those behind it.
func TestRow(t *testing.T) {
	for _, size := range []int{8, 11, 12, 14, 20, 64} {
		d := draw(size)
		m := blank(t, size)
		s := opened(t, m)
		for n := range 120 {
			r := api.Record{Code: 1 + d.below(size/3+1), Count: 1 + d.below(9), Latched: d.below(4) == 0}
			words, before := dump(t, m), s.Records()
			steps, _ := wantPut(words, r)
			after := wantRecords(done(words, steps))
			for left := range putWrites {
				twin := written(t, words)
				store := opened(t, twin)
				twin.Arm(left)
				if err := store.Put(r); err != errPower {
					t.Fatalf("Put %d, %d writes left: %d", n, left, err)
				}
				twin.Up()
				tells(t, "cut", opened(t, twin), before...)
				tells(t, "cut, not opened again", store, before...)
				if err := store.Put(r); err != api.OK {
					t.Fatalf("Put %d again, behind %d writes: %d", n, left, err)
				}
				tells(t, "cut, and put again", store, after...)
			}
			m.Arm(putWrites)
			if err := s.Put(r); err != api.OK || m.Down() {
				t.Fatalf("Put %d: %d", n, err)
			}
			cut(t, m)
			m.Up()
			s = opened(t, m)
			has(t, "put", s, m, done(words, steps))
			tells(t, "put", s, after...)
		}
	}
}

// P12.4: a row of Puts goes on behind cuts that are not mended, one behind the other, and loses nothing that it kept.
func TestRowOfCuts(t *testing.T) {
	d := draw(12)
	m := blank(t, 24)
	s := opened(t, m)
	var cuts, puts int
	for range 3000 {
		r := api.Record{Code: 1 + d.below(9), Count: 1 + d.below(mostOften), Latched: d.below(5) == 0}
		words, before, left := dump(t, m), s.Records(), d.below(9)
		steps, _ := wantPut(words, r)
		m.Arm(left)
		err := s.Put(r)
		m.Up()
		s = opened(t, m)
		has(t, "behind it", s, m, done(words, steps[:min(left, putWrites)]))
		if err == api.OK {
			puts++
		} else if cuts++; !slices.Equal(s.Records(), before) {
			t.Fatalf("cut behind %d writes: %v became %v", left, before, s.Records())
		}
	}
	if cuts < 1000 || puts < 1000 {
		t.Errorf("%d cuts, %d puts: too seldom to tell", cuts, puts)
	}
}

// R5: two stores of one memory tell the same, and what one is told the other one tells.
func TestTwoStores(t *testing.T) {
	m := blank(t, 12)
	one, two := opened(t, m), opened(t, m)
	both := func(when string, want ...api.Record) {
		t.Helper()
		tells(t, when, one, want...)
		tells(t, when, two, want...)
	}
	both("new")
	one.Put(rec(5, 1))
	both("put into the first one", rec(5, 1))
	two.Put(rec(5, 2))
	both("put into the second one", rec(5, 2))
	one.Put(rec(6, 1))
	two.Put(rec(7, 1))
	both("full", rec(6, 1), rec(7, 1))
	m.Arm(3)
	if one.Put(rec(8, 1)) != errPower || two.Put(rec(8, 1)) != errPower || two.Clear() != errPower {
		t.Error("the power went for both")
	}
	both("without power")
	m.Up()
	both("with power again", rec(6, 1), rec(7, 1))
	m.Write(0, 0)
	m.Write(4, 0)
	m.Write(8, 0)
	both("written by hand")
	two.Put(rec(9, 1))
	one.Clear()
	both("cleared by the first one")
}

// R5: two memories beside one another: what one's store is told the other one's does not tell.
func TestTwoMemories(t *testing.T) {
	first, second := blank(t, 12), blank(t, 8)
	one, two := opened(t, first), opened(t, second)
	one.Put(rec(5, 1))
	two.Put(lat(6, 2))
	tells(t, "the first one", one, rec(5, 1))
	tells(t, "the second one", two, lat(6, 2))
	cut(t, first)
	tells(t, "the first one, without power", one)
	tells(t, "the second one, with power", two, lat(6, 2))
	if two.Put(rec(7, 1)) != api.OK || two.Clear() != api.OK {
		t.Error("the second one's power")
	}
	first.Up()
	tells(t, "the first one, with power again", one, rec(5, 1))
	tells(t, "the second one, cleared", two)
	if one.Room() != 2 || two.Room() != 1 {
		t.Errorf("Rooms of %d and %d", one.Room(), two.Room())
	}
}

// R1: a nil store: ErrArg where an error is answered, else zero values.
func TestNil(t *testing.T) {
	var s *Store
	for _, r := range append(badRecords(), goodRecords()...) {
		if err := s.Put(r); err != errArg {
			t.Errorf("Put(%v): %d", r, err)
		}
	}
	if err := s.Clear(); err != errArg {
		t.Errorf("Clear: %d", err)
	}
	if l := s.Records(); len(l) != 0 {
		t.Errorf("Records: %v", l)
	}
	if s.Room() != 0 {
		t.Errorf("a Room of %d", s.Room())
	}
}

// R1: one that Open did not make: no call panics, and it is as none.
func TestHandMade(t *testing.T) {
	s := new(Store)
	for range 2 {
		for _, r := range append(badRecords(), goodRecords()...) {
			if err := s.Put(r); err != errArg {
				t.Errorf("Put(%v): %d", r, err)
			}
		}
		if s.Clear() != errArg || len(s.Records()) != 0 || s.Room() != 0 {
			t.Errorf("Clear: %d; Records: %v; a Room of %d", s.Clear(), s.Records(), s.Room())
		}
	}
	var first, second, third, fourth Store
	if first.Room() != 0 || len(second.Records()) != 0 || third.Clear() != errArg || fourth.Put(rec(1, 1)) != errArg {
		t.Error("asked first")
	}
}

// R5: no answer hangs on the order in which a map is gone through: of many places that differ in little each run is as the other ones.
func TestSameAgain(t *testing.T) {
	for _, isLatched := range []bool{false, true} {
		var words []uint32
		for at := range 128 {
			words = append(words, four(uint32(7+at%2), api.Record{Code: 200 - at, Count: 1 + at, Latched: isLatched})...)
		}
		want := wantRecords(words)
		for range 50 {
			s, m := of(t, words)
			tells(t, "asked", s, want...)
			for n := range 4 {
				r := api.Record{Code: 250 + n, Count: 5, Latched: isLatched}
				if err := s.Put(r); err != api.OK {
					t.Fatalf("Put(%v): %d", r, err)
				}
			}
			for n, at := range []int{0, 2, 4, 6} {
				if w, _ := m.Read(4 * at); w != uint32(9+n) {
					t.Fatalf("place %d has the number %d", at, w)
				}
			}
		}
	}
}

// P12.2, P12.3: words of little difference, of a short rule, and calls of all kinds, against the promises' words behind each of them.
func TestAsTold(t *testing.T) {
	numbers := []uint32{0, 1, 1, 2, 2, 3, 4, 1<<31 - 2, 1<<31 - 1, 1 << 31, 1<<31 + 1}
	seconds := []uint32{0, 1, 2, 3, 4, 5, 257, 258, 259, 260, 261, 256, 512, 513}
	var full, tooMuch, same int
	for seed := range 4000 {
		d := draw(seed)
		words := make([]uint32, 8+d.below(17))
		for at := range len(words) / 4 {
			number := numbers[d.below(9+seed%3)]
			copy(words[4*at:], []uint32{number, seconds[d.below(len(seconds))], uint32(1 + d.below(3)), number})
			if d.below(12) == 0 {
				words[4*at+d.below(4)] = uint32(d.below(3)) * 32768
			}
		}
		s, m := of(t, words)
		for range 8 {
			if len(wantHolds(words)) == s.Room() && len(wantGood(words)) > s.Room() {
				tooMuch++
			}
			if len(wantHolds(words)) < len(wantGood(words)) {
				same++
			}
			left, steps, errno := d.below(9)-1, []step(nil), api.Errno(api.OK)
			m.Arm(left)
			r := api.Record{Code: d.below(7), Count: 1 + d.below(9), Latched: d.below(2) == 0}
			clears := d.below(12) == 0
			if clears {
				steps = wantClear(words)
			} else {
				steps, errno = wantPut(words, r)
			}
			if left >= 0 && left < len(steps) {
				steps, errno = steps[:left], errPower
			}
			var err api.Errno
			if clears {
				err = s.Clear()
			} else {
				err = s.Put(r)
			}
			if err != errno || m.Down() != (errno == errPower) {
				t.Fatalf("seed %d: %v into %d, %d writes left: %d, not %d", seed, r, words, left, err, errno)
			}
			if errno == errFull {
				full++
			}
			m.Up()
			words = done(words, steps)
			has(t, "behind a call", s, m, words)
		}
	}
	if full < 500 || tooMuch < 500 || same < 500 {
		t.Errorf("full %d times, too much %d times, some that did not hold %d times: too seldom to tell", full, tooMuch, same)
	}
}
