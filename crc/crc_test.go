package crc

import (
	"bytes"
	"slices"
	"strings"
	"sync"
	"testing"
)

// sums are those behind which bytes are told: 0, FFFF, 1021, 8000, their neighbours, and others.
func sums() []uint16 {
	return []uint16{0, 1, 2, 0x00FF, 0x0100, 0x1020, 0x1021, 0x1022, 0x29B1, 0x5555, 0x7FFF, 0x8000, 0x8001, 0x8421, 0xAAAA, 0xEFDE, 0xFF00, 0xFFFE, 0xFFFF}
}

// mixed is n bytes of all kinds, others for each seed.
func mixed(n int, seed uint32) []byte {
	b, x := make([]byte, n), seed*2654435761+12345
	for i := range b {
		x = x*1664525 + 1013904223
		b[i] = byte(x >> 24)
	}
	return b
}

// texts are bytes of all kinds: none, one, few, many, all 0, all 255, all with the highest bit 1, all values.
func texts() [][]byte {
	all := make([]byte, 256)
	for i := range all {
		all[i] = byte(i)
	}
	high := mixed(300, 9)
	for i := range high {
		high[i] |= 0x80
	}
	l := [][]byte{nil, {}, {0}, {1}, {0x7F}, {0x80}, {0xFF}, {0, 0}, {0, 1}, {0x80, 0}, {0xFF, 0xFF}, []byte("123456789"), []byte("A"), []byte("\xC3\xA4\xF0\x9F\x98\x80"), all, high, make([]byte, 100), bytes.Repeat([]byte{0xFF}, 100)}
	for n := range 20 {
		l = append(l, mixed(n*n, uint32(n)))
	}
	return append(l, mixed(1<<16, 77), mixed(100003, 78))
}

// wantMore is P4.1's words, bit by bit, in a number wide enough to see which bit goes out.
func wantMore(sum uint16, b []byte) uint16 {
	n := int(sum)
	for _, c := range b {
		n ^= int(c) * 256
		for range 8 {
			n *= 2
			if n >= 65536 {
				n = (n - 65536) ^ 0x1021
			}
		}
	}
	return uint16(n)
}

// changed are two texts as long, changed by one another byte by byte.
func changed(a, b []byte) []byte {
	out := make([]byte, len(a))
	for i := range a {
		out[i] = a[i] ^ b[i]
	}
	return out
}

// P4.1, P4.2: the chapter's examples.
func TestExamples(t *testing.T) {
	s := New()
	if got := s.Of([]byte("123456789")); got != 0x29B1 {
		t.Errorf("%X", got)
	}
	if got := s.Of(nil); got != 0xFFFF {
		t.Errorf("none: %X", got)
	}
	if got := s.Many(); got != 2 {
		t.Errorf("%d calls", got)
	}
}

// P4.1: sums that are known, or that were reckoned by hand.
func TestKnown(t *testing.T) {
	s := New()
	for _, c := range []struct {
		sum  uint16
		text string
		want uint16
	}{
		{0, "", 0}, {0, "\x00", 0}, {0, "\x01", 0x1021}, {0, "\x02", 0x2042}, {0, "\x03", 0x3063}, {0, "\x08", 0x8108}, {0, "\x10", 0x1231}, {0, "\x80", 0x9188}, {0, "\xFF", 0x1EF0},
		{0xFFFF, "", 0xFFFF}, {0xFFFF, "\x00", 0xE1F0}, {0xFFFF, "\xFF", 0xFF00}, {0xFFFF, "\xFF\xFF", 0x0000}, {0xFFFF, "A", 0xB915},
		{0x0100, "\x00", 0x1021}, {0x0100, "\x01", 0}, {0x8000, "\x80", 0}, {0x8000, "\x00", 0x9188}, {0x0080, "\x00", 0x8000}, {0x1021, "\x10", 0x2100}, {0x00FF, "\x00", 0xFF00},
		{0, "123456789", 0x31C3}, {0xFFFF, "123456789", 0x29B1}, {0x1D0F, "123456789", 0xE5CC},
		{0xFFFF, strings.Repeat("A", 256), 0xEA0B},
	} {
		if got := s.More(c.sum, []byte(c.text)); got != c.want {
			t.Errorf("%q behind %X: %X, not %X", c.text, c.sum, got, c.want)
		}
	}
}

// P4.1: no bytes, nil and empty, leave each sum as it is.
func TestNone(t *testing.T) {
	s := New()
	for sum := range 1 << 16 {
		if a, b := s.More(uint16(sum), nil), s.More(uint16(sum), []byte{}); int(a) != sum || int(b) != sum {
			t.Fatalf("behind %X: %X, %X", sum, a, b)
		}
	}
	if a, b := s.Of(nil), s.Of([]byte{}); a != 0xFFFF || b != 0xFFFF {
		t.Errorf("%X, %X", a, b)
	}
}

// P4.1: one byte, of each of its values, behind several sums, and behind FFFF by Of; one byte behind each sum.
func TestOneByte(t *testing.T) {
	s := New()
	for c := range 256 {
		b := []byte{byte(c)}
		for _, sum := range sums() {
			if got, want := s.More(sum, b), wantMore(sum, b); got != want {
				t.Errorf("%X behind %X: %X, not %X", c, sum, got, want)
			}
		}
		if got, want := s.Of(b), wantMore(0xFFFF, b); got != want {
			t.Errorf("%X: %X, not %X", c, got, want)
		}
	}
	for sum := range 1 << 16 {
		b := []byte{byte(sum * 37)}
		if got, want := s.More(uint16(sum), b), wantMore(uint16(sum), b); got != want {
			t.Fatalf("%X behind %X: %X, not %X", b, sum, got, want)
		}
	}
}

// P4.1: texts of all kinds, long ones among them, against the promise's words; Of is More of FFFF.
func TestAsTold(t *testing.T) {
	s := New()
	for _, b := range texts() {
		for _, sum := range sums() {
			if got, want := s.More(sum, b), wantMore(sum, b); got != want {
				t.Errorf("%d bytes behind %X: %X, not %X", len(b), sum, got, want)
			}
		}
		if got, want := s.Of(b), wantMore(0xFFFF, b); got != want || s.More(0xFFFF, b) != want {
			t.Errorf("%d bytes: %X, not %X", len(b), got, want)
		}
	}
}

// P4.1: a text of megabytes.
func TestVeryLong(t *testing.T) {
	b := mixed(3<<20, 5)
	if got, want := New().Of(b), wantMore(0xFFFF, b); got != want {
		t.Errorf("%X, not %X", got, want)
	}
}

// P4.3: More of a sum goes on where it ended, wherever that was in the text, in two pieces and in many.
func TestGoesOn(t *testing.T) {
	s := New()
	for _, b := range texts() {
		whole := s.Of(b)
		step := max(len(b)/500, 1)
		for i := 0; i <= len(b); i += step {
			if got := s.More(s.Of(b[:i]), b[i:]); got != whole {
				t.Errorf("%d bytes, ended at %d: %X, not %X", len(b), i, got, whole)
			}
			if got := s.More(s.More(0x1021, b[:i]), b[i:]); got != s.More(0x1021, b) {
				t.Errorf("%d bytes behind 1021, ended at %d: %X", len(b), i, got)
			}
		}
		bit := s.Of(nil)
		for i := range b {
			bit = s.More(bit, b[i:i+1])
		}
		if bit != whole {
			t.Errorf("%d bytes one by one: %X, not %X", len(b), bit, whole)
		}
	}
}

// P4.3: of texts as long, the sum of both, changed by one another, is both sums and that of as many bytes 0, changed by one another.
func TestChanged(t *testing.T) {
	s := New()
	for _, a := range texts() {
		zero := s.Of(make([]byte, len(a)))
		others := [][]byte{make([]byte, len(a)), bytes.Repeat([]byte{0xFF}, len(a)), bytes.Repeat([]byte{0x80}, len(a)), a}
		for seed := range uint32(5) {
			others = append(others, mixed(len(a), 1000+seed))
		}
		for _, b := range others {
			if got, want := s.Of(changed(a, b)), s.Of(a)^s.Of(b)^zero; got != want {
				t.Errorf("%d bytes: %X, not %X", len(a), got, want)
			}
		}
	}
}

// P4.2: 0 before any call; each call of Of and of More is one, of no bytes too; calls of Many are none.
func TestMany(t *testing.T) {
	s, want := New(), 0
	told := func(when string) {
		for range 3 {
			if got := s.Many(); got != want {
				t.Errorf("%s: %d calls, not %d", when, got, want)
			}
		}
	}
	told("before any")
	for _, b := range texts() {
		s.Of(b)
		want++
		told("behind Of")
		s.More(0x8000, b)
		want++
		told("behind More")
		s.More(s.Of(b), b)
		want += 2
		told("behind both")
	}
	for range 1000 {
		s.Of(nil)
		want++
	}
	told("behind many")
}

// P4.2: calls of none answer 0, and are counted nowhere.
func TestNil(t *testing.T) {
	var s *Sum
	for _, b := range texts() {
		if s.Of(b) != 0 || s.Many() != 0 {
			t.Errorf("%d bytes", len(b))
		}
		for _, sum := range sums() {
			if s.More(sum, b) != 0 || s.Many() != 0 {
				t.Errorf("%d bytes behind %X", len(b), sum)
			}
		}
	}
	if got := New().Many(); got != 0 {
		t.Errorf("%d calls of another one", got)
	}
}

// P4.1, P4.2, R1: one that New did not make answers as others do, whichever call comes first.
func TestHandMade(t *testing.T) {
	text := []byte("123456789")
	var first, second, third Sum
	if first.Many() != 0 || first.Of(text) != 0x29B1 || first.Many() != 1 {
		t.Errorf("Of first: %d calls", first.Many())
	}
	if second.More(0, text) != 0x31C3 || second.Of(text) != 0x29B1 || second.Many() != 2 {
		t.Errorf("More first: %d calls", second.Many())
	}
	if third.Of(nil) != 0xFFFF || third.More(0x1021, text) != wantMore(0x1021, text) || third.Many() != 2 {
		t.Errorf("none first: %d calls", third.Many())
	}
}

// P4.2: two beside each other: each counts its own calls, and both answer the same.
func TestTwo(t *testing.T) {
	one, two := New(), New()
	if one == nil || two == nil || one == two {
		t.Fatal("New gives none, or the same again")
	}
	for i, b := range texts() {
		if one.Of(b) != two.More(0xFFFF, b) || two.Of(b) != one.Of(b) || two.More(9, b) != wantMore(9, b) {
			t.Errorf("%d bytes", len(b))
		}
		if one.Many() != 2*(i+1) || two.Many() != 3*(i+1) {
			t.Errorf("%d and %d calls", one.Many(), two.Many())
		}
	}
	if got := New().Many(); got != 0 {
		t.Errorf("a third one: %d calls", got)
	}
}

// together calls Of and More from many goroutines that begin at once, so that they are the first calls of s too; it answers how many calls there were.
func together(t *testing.T, s *Sum, goroutines, rounds int) int {
	begin := make(chan struct{})
	var all sync.WaitGroup
	for g := range goroutines {
		all.Go(func() {
			b, sum := mixed(50+g, uint32(g)), uint16(g*4099)
			of, more := wantMore(0xFFFF, b), wantMore(sum, b)
			<-begin
			for range rounds {
				ahead := s.Many()
				if s.Of(b) != of || s.More(sum, b) != more {
					t.Errorf("goroutine %d: another sum", g)
				}
				if behind := s.Many(); behind < ahead+2 {
					t.Errorf("goroutine %d: %d calls behind %d", g, behind, ahead)
				}
			}
		})
	}
	close(begin)
	all.Wait()
	return 2 * goroutines * rounds
}

// P4.2: at the same time from several goroutines each call is answered as alone, and all are counted, of many rounds and of the first call alone.
func TestTogether(t *testing.T) {
	for range 50 {
		s := New()
		if want := together(t, s, 16, 1); s.Many() != want {
			t.Errorf("%d calls, not %d", s.Many(), want)
		}
	}
	s := new(Sum)
	want := together(t, s, 32, 500)
	want += together(t, s, 8, 100)
	if s.Many() != want {
		t.Errorf("%d calls, not %d", s.Many(), want)
	}
	if s.Of([]byte("123456789")) != 0x29B1 || s.Many() != want+1 {
		t.Errorf("behind them: %d calls", s.Many())
	}
}

// R4: bytes are as they were behind each call, their spare room included, and are not kept; R5: the room behind them tells nothing.
func TestHandedIn(t *testing.T) {
	s := New()
	for _, b := range texts() {
		room := append(slices.Clone(b), 1, 2, 3, 0xFF)
		was := slices.Clone(room)
		of, more := s.Of(room[:len(b)]), s.More(0x8000, room[:len(b)])
		if of != s.Of(slices.Clip(slices.Clone(b))) || more != wantMore(0x8000, b) {
			t.Errorf("%d bytes with room behind them: %X, %X", len(b), of, more)
		}
		if !slices.Equal(room, was) {
			t.Errorf("%d bytes were changed", len(b))
		}
	}
	b := []byte("123456789")
	s.Of(b)
	b[0] = 'A'
	if s.Of(b) != wantMore(0xFFFF, b) || s.Of([]byte("123456789")) != 0x29B1 {
		t.Error("earlier bytes are kept")
	}
}
