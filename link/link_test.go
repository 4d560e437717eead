package link

import (
	"bytes"
	"encoding/binary"
	"encoding/hex"
	"fmt"
	"math"
	"math/rand"
	"slices"
	"testing"

	"turbojet/api"
)

// empty is what stands beside each error.
var empty api.Packet

// example is the packet of the chapter's examples.
func example() api.Packet { return api.Packet{From: 1} }

// rich is a packet all of whose bytes differ from those beside them, values below 0 among them.
func rich() api.Packet {
	return api.Packet{From: 1, Frame: 0x01020304, Values: [api.Signals]int{5, -1, 1 << 20, 0, -1 << 31}, Good: [api.Signals]bool{true, false, false, true, false}, Mode: 4, Score: 200}
}

// good are the flags of a number's bits.
func good(n int) [api.Signals]bool {
	return [api.Signals]bool{n%2 == 1, n/2%2 == 1, n/4%2 == 1, n/8%2 == 1, n/16%2 == 1}
}

// wantSum is the sum of bytes, bit by bit.
func wantSum(b []byte) uint16 {
	n := 0xFFFF
	for _, c := range b {
		n ^= int(c) * 256
		for range 8 {
			n *= 2
			if n >= 65536 {
				n = (n - 65536) ^ 0x1021
			}
		}
	}
	return uint16(n)
}

// summed are thirty bytes, and their sum, so that only what they say can make them no packet's.
func summed(b []byte) []byte {
	return binary.BigEndian.AppendUint16(slices.Clone(b[:30]), wantSum(b[:30]))
}

// wantBytes is P5.2's words of a packet that may be.
func wantBytes(p api.Packet) []byte {
	b := []byte{0xD5, byte(p.From)}
	b = binary.BigEndian.AppendUint32(b, uint32(p.Frame))
	b = append(b, byte(p.Mode), byte(p.Score))
	for _, v := range p.Values {
		b = binary.BigEndian.AppendUint32(b, uint32(v))
	}
	n := 0
	for i, worth := range []int{1, 2, 4, 8, 16} {
		if p.Good[i] {
			n += worth
		}
	}
	return summed(append(b, byte(n), 0))
}

// wantPacket is the packet whose bytes b are, if there is one: it asks for each byte what Encode may write there.
func wantPacket(b []byte) (api.Packet, bool) {
	if len(b) != 32 || b[0] != 0xD5 || b[1] > 1 || b[6] > 15 || b[28] > 31 || b[29] != 0 || binary.BigEndian.Uint16(b[30:]) != wantSum(b[:30]) {
		return api.Packet{}, false
	}
	p := api.Packet{From: int(b[1]), Frame: int(binary.BigEndian.Uint32(b[2:])), Mode: int(b[6]), Score: int(b[7]), Good: good(int(b[28]))}
	for i := range p.Values {
		p.Values[i] = int(int32(binary.BigEndian.Uint32(b[8+4*i:])))
	}
	return p, true
}

// wantTake is P5.3's words.
func wantTake(b []byte) (api.Packet, int, api.Errno) {
	for i := range b {
		if i+32 <= len(b) {
			if p, ok := wantPacket(b[i : i+32]); ok {
				return p, i + 32, api.OK
			}
		}
	}
	for i, c := range b {
		if len(b)-i < 32 && c == 0xD5 {
			return api.Packet{}, i, api.ErrLink
		}
	}
	return api.Packet{}, len(b), api.ErrLink
}

// encoded are a packet's bytes, as Encode answers them.
func encoded(t *testing.T, p api.Packet) []byte {
	t.Helper()
	b, err := Encode(p)
	if err != api.OK || len(b) != 32 {
		t.Fatalf("%+v: %X, %v", p, b, err)
	}
	return b
}

// told holds Decode and Take of bytes against the promises' words.
func told(t *testing.T, b []byte, what ...any) {
	t.Helper()
	p, ok := wantPacket(b)
	got, err := Decode(b)
	if got != p || (err == api.OK) != ok || !ok && err != api.ErrLink {
		t.Errorf("%v: Decode(%X): %+v, %v", what, b, got, err)
	}
	taken(t, b, what...)
}

// taken holds Take of bytes against the promise's words.
func taken(t *testing.T, b []byte, what ...any) {
	t.Helper()
	p, n, err := wantTake(b)
	if got, m, e := Take(b); got != p || m != n || e != err {
		t.Errorf("%v: Take(%X): %+v, %d, %v, not %+v, %d, %v", what, b, got, m, e, p, n, err)
	}
}

// joined are bytes one behind the other, in memory of their own.
func joined(parts ...[]byte) []byte { return slices.Concat(parts...) }

func marks(n int) []byte { return bytes.Repeat([]byte{0xD5}, n) }

// anyPacket is one that may be, its numbers at their ends more often than not.
func anyPacket(r *rand.Rand) api.Packet {
	of := func(ends ...int) int {
		if i := r.Intn(2 * len(ends)); i < len(ends) {
			return ends[i]
		}
		low, high := slices.Min(ends), slices.Max(ends)
		return low + r.Intn(high-low+1)
	}
	p := api.Packet{From: r.Intn(2), Frame: of(0, 1, 0xD5, 1<<31-1, 1<<31, 0xD5D5D5D5, 1<<32-1), Mode: of(0, 8, 15), Score: of(0, 127, 128, 0xD5, 255), Good: good(r.Intn(32))}
	for i := range p.Values {
		p.Values[i] = of(api.Least, api.Least+1, -256, -1, 0, 1, 255, 256, 0xD5, 0xD50000, -0x2A000000, api.Most-1, api.Most)
	}
	return p
}

// noise are n bytes, D5 and small ones among them more often than others.
func noise(r *rand.Rand, n int) []byte {
	b := make([]byte, n)
	for i := range b {
		switch r.Intn(4) {
		case 0:
			b[i] = 0xD5
		case 1:
			b[i] = byte(r.Intn(3))
		default:
			b[i] = byte(r.Intn(256))
		}
	}
	return b
}

// P5.2, P5.3: the chapter's examples.
func TestExamples(t *testing.T) {
	b, err := Encode(example())
	if err != api.OK || len(b) != 32 || b[0] != 0xD5 || b[1] != 1 || !bytes.Equal(b[2:30], make([]byte, 28)) || binary.BigEndian.Uint16(b[30:]) != 0xCEB6 {
		t.Fatalf("%X, %v", b, err)
	}
	if p, n, err := Take(joined([]byte{7}, b)); p != example() || n != 33 || err != api.OK {
		t.Errorf("%+v, %d, %v", p, n, err)
	}
	if p, n, err := Take([]byte{7, 0xD5, 1}); p != empty || n != 1 || err != api.ErrLink {
		t.Errorf("%+v, %d, %v", p, n, err)
	}
}

// P5.2: bytes that are known, both ways.
func TestKnown(t *testing.T) {
	for _, c := range []struct {
		p    api.Packet
		want string
	}{
		{empty, "D500000000000000000000000000000000000000000000000000000000003E50"},
		{example(), "D50100000000000000000000000000000000000000000000000000000000CEB6"},
		{rich(), "D5010102030404C800000005FFFFFFFF0010000000000000800000000900754E"},
		{api.Packet{From: 1, Frame: 1<<32 - 1, Values: [api.Signals]int{api.Most, api.Least, -2, -256, 0x12345678}, Good: good(31), Mode: 15, Score: 255}, "D501FFFFFFFF0FFF7FFFFFFF80000000FFFFFFFEFFFFFF00123456781F00DEEF"},
	} {
		want, err := hex.DecodeString(c.want)
		if err != nil {
			t.Fatal(err)
		}
		if b := encoded(t, c.p); !bytes.Equal(b, want) {
			t.Errorf("%+v: %X, not %X", c.p, b, want)
		}
		if p, err := Decode(want); p != c.p || err != api.OK {
			t.Errorf("%X: %+v, %v", want, p, err)
		}
	}
}

// field sets one number of a packet; low and high are the ends that P5.1 names.
type field struct {
	name      string
	low, high int
	set       func(*api.Packet, int)
}

func fields() []field {
	l := []field{
		{"From", 0, 1, func(p *api.Packet, n int) { p.From = n }},
		{"Frame", 0, 1<<32 - 1, func(p *api.Packet, n int) { p.Frame = n }},
		{"Mode", 0, 15, func(p *api.Packet, n int) { p.Mode = n }},
		{"Score", 0, 255, func(p *api.Packet, n int) { p.Score = n }},
	}
	for i := range api.Signals {
		l = append(l, field{fmt.Sprintf("Values[%d]", i), -1 << 31, 1<<31 - 1, func(p *api.Packet, n int) { p.Values[i] = n }})
	}
	return l
}

// mayBe holds Check, Encode and Decode of a packet that may be.
func mayBe(t *testing.T, p api.Packet, what ...any) {
	t.Helper()
	if err := Check(p); err != api.OK {
		t.Errorf("%v: Check: %v", what, err)
	}
	b, err := Encode(p)
	if err != api.OK || !bytes.Equal(b, wantBytes(p)) {
		t.Errorf("%v: Encode: %X, %v", what, b, err)
	}
	if q, err := Decode(b); q != p || err != api.OK {
		t.Errorf("%v: Decode: %+v, %v", what, q, err)
	}
	if q, n, err := Take(b); q != p || n != 32 || err != api.OK {
		t.Errorf("%v: Take: %+v, %d, %v", what, q, n, err)
	}
}

// mayNot holds Check and Encode of a packet that may not be.
func mayNot(t *testing.T, p api.Packet, what ...any) {
	t.Helper()
	if err := Check(p); err != api.ErrArg {
		t.Errorf("%v: Check: %v", what, err)
	}
	if b, err := Encode(p); len(b) != 0 || err != api.ErrArg {
		t.Errorf("%v: Encode: %X, %v", what, b, err)
	}
}

// P5.1, P5.2: each field at its ends, beside them, one beyond them, and at the ends of its type, in packets of all kinds.
func TestFields(t *testing.T) {
	for _, base := range []api.Packet{{}, example(), rich(), {Good: good(31)}} {
		for _, f := range fields() {
			for _, n := range []int{f.low, f.high, f.low + 1, f.high - 1, f.low/2 + f.high/2} {
				p := base
				f.set(&p, n)
				mayBe(t, p, f.name, n)
			}
			for _, n := range []int{f.low - 1, f.high + 1, f.low - 256, f.high + 256, f.low - 1<<32, f.high + 1<<32, math.MinInt, math.MinInt + 1, math.MaxInt, math.MaxInt - 1} {
				p := base
				f.set(&p, n)
				mayNot(t, p, f.name, n)
			}
		}
	}
}

// P5.1: two fields that may not be, of all pairs, are no better than one.
func TestTwoWrong(t *testing.T) {
	for _, f := range fields() {
		for _, g := range fields() {
			p := rich()
			f.set(&p, f.high+1)
			g.set(&p, g.low-1)
			mayNot(t, p, f.name, g.name)
		}
	}
}

// P5.1, P5.2: every From, Mode and Score there is, and those beyond.
func TestAllSmall(t *testing.T) {
	for n := -300; n <= 600; n++ {
		for _, f := range fields()[:4] {
			p := rich()
			f.set(&p, n)
			if n >= f.low && n <= f.high {
				mayBe(t, p, f.name, n)
			} else {
				mayNot(t, p, f.name, n)
			}
		}
	}
}

// P5.2: each of Good alone is a byte of its own, and all of them together; Good says nothing of whether a packet may be.
func TestGood(t *testing.T) {
	for i, worth := range []byte{1, 2, 4, 8, 16} {
		p := example()
		p.Good[i] = true
		mayBe(t, p, "good alone", i)
		if b := encoded(t, p); b[28] != worth || b[29] != 0 {
			t.Errorf("good %d: %X", i, b)
		}
	}
	for n := range 32 {
		p := rich()
		p.Good = good(n)
		mayBe(t, p, "good", n)
		if b := encoded(t, p); int(b[28]) != n {
			t.Errorf("good %d: %X", n, b)
		}
	}
}

// P5.2: values are written modulo 2^32, the highest byte first, each at its place.
func TestValues(t *testing.T) {
	for i := range api.Signals {
		for _, c := range []struct {
			v    int
			want []byte
		}{
			{-1, []byte{255, 255, 255, 255}}, {-2, []byte{255, 255, 255, 254}}, {-256, []byte{255, 255, 255, 0}}, {api.Least, []byte{128, 0, 0, 0}}, {api.Least + 1, []byte{128, 0, 0, 1}},
			{api.Most, []byte{127, 255, 255, 255}}, {0x01020304, []byte{1, 2, 3, 4}}, {-0x2A2A2A2B, []byte{0xD5, 0xD5, 0xD5, 0xD5}}, {0, make([]byte, 4)},
		} {
			p := api.Packet{}
			p.Values[i] = c.v
			mayBe(t, p, "value", i, c.v)
			b := encoded(t, p)
			if !bytes.Equal(b[8+4*i:12+4*i], c.want) || !bytes.Equal(joined(b[8:8+4*i], b[12+4*i:30]), make([]byte, 18)) {
				t.Errorf("value %d is %d: %X", i, c.v, b)
			}
		}
	}
}

// P5.2, P5.4: packets of all kinds are decoded as they were.
func TestAsTheyWere(t *testing.T) {
	r := rand.New(rand.NewSource(1))
	for range 20000 {
		p := anyPacket(r)
		mayBe(t, p, p)
	}
}

// P5.2, P5.3: bytes of every length but thirty-two are no packet's, a packet's first ones, and those with more behind them, among them.
func TestLengths(t *testing.T) {
	told(t, nil, "nil")
	told(t, []byte{}, "empty")
	if p, err := Decode(nil); p != empty || err != api.ErrLink {
		t.Errorf("none: %+v, %v", p, err)
	}
	r := rand.New(rand.NewSource(2))
	for _, p := range []api.Packet{{}, example(), rich(), anyPacket(r)} {
		b := wantBytes(p)
		long := joined(b, b, b, b)
		for n := range len(long) + 1 {
			q, err := Decode(long[:n])
			if n == 32 && (q != p || err != api.OK) || n != 32 && (q != empty || err != api.ErrLink) {
				t.Errorf("%d bytes: %+v, %v", n, q, err)
			}
			told(t, long[:n], "a packet's bytes", n)
			told(t, make([]byte, n), "bytes 0", n)
			told(t, marks(n), "marks", n)
			told(t, noise(r, n), "noise", n)
		}
		if q, err := Decode(b[1:]); q != empty || err != api.ErrLink {
			t.Errorf("without the first byte: %+v, %v", q, err)
		}
	}
}

// P5.2: a packet's bytes but for one of them, whichever it is and whatever it becomes, are no packet's.
func TestOneByteOff(t *testing.T) {
	for _, p := range []api.Packet{{}, example(), rich()} {
		b := wantBytes(p)
		for i := range b {
			for change := 1; change < 256; change++ {
				c := slices.Clone(b)
				c[i] ^= byte(change)
				if q, err := Decode(c); q != empty || err != api.ErrLink {
					t.Errorf("byte %d changed by %X: %+v, %v", i, change, q, err)
				}
				taken(t, c, "byte", i, "changed by", change)
			}
		}
	}
}

// P5.2: a packet's bytes but for two of them: beside each other they are no packet's; apart a sum may be right again, and then they are another packet's, or none.
func TestTwoBytesOff(t *testing.T) {
	r, b := rand.New(rand.NewSource(3)), wantBytes(rich())
	for i := range b {
		for j := i + 1; j < len(b); j++ {
			for range 60 {
				c := slices.Clone(b)
				c[i] ^= byte(1 + r.Intn(255))
				c[j] ^= byte(1 + r.Intn(255))
				told(t, c, "bytes", i, j)
				if _, err := Decode(c); j == i+1 && err != api.ErrLink {
					t.Errorf("bytes %d and %d: %v", i, j, err)
				}
			}
			c := slices.Clone(b)
			c[i], c[j] = c[j], c[i]
			told(t, c, "exchanged", i, j)
		}
	}
}

// P5.2, P5.3: bytes with a right sum that are no packet's for one byte that Encode never writes there; all else that a byte may be is a packet's.
func TestRightSum(t *testing.T) {
	never := func(i, c int) bool {
		return i == 0 && c != 0xD5 || i == 1 && c > 1 || i == 6 && c > 15 || i == 28 && c > 31 || i == 29 && c != 0
	}
	for _, p := range []api.Packet{{}, example(), rich()} {
		for i := range 30 {
			for c := range 256 {
				b := wantBytes(p)
				b[i] = byte(c)
				b = summed(b)
				q, err := Decode(b)
				if never(i, c) != (err == api.ErrLink) || err == api.ErrLink && q != empty {
					t.Errorf("byte %d is %X: %+v, %v", i, c, q, err)
				}
				told(t, b, "byte", i, "is", c)
				taken(t, joined(b, wantBytes(rich())), "byte", i, "is", c, "ahead of a packet")
			}
		}
	}
}

// P5.2: of a sum's two bytes, all 2^16 there are, one alone is right.
func TestOneSum(t *testing.T) {
	b := wantBytes(rich())
	right := binary.BigEndian.Uint16(b[30:])
	for n := range 1 << 16 {
		binary.BigEndian.PutUint16(b[30:], uint16(n))
		if p, err := Decode(b); (err == api.OK) != (n == int(right)) || (p == rich()) != (n == int(right)) {
			t.Errorf("%X: %+v, %v", n, p, err)
		}
	}
}

// P5.3, P5.4: a packet behind bytes of all kinds, D5 among them once and many times, is taken as it was, and what stands behind it does not matter.
func TestBehind(t *testing.T) {
	r := rand.New(rand.NewSource(4))
	almost := wantBytes(rich())
	almost[20] ^= 1
	heads := [][]byte{nil, {}, {7}, {0xD5}, {0xD5, 1}, {0xD5, 0xD5}, {1, 0xD5, 2, 0xD5, 0}, wantBytes(rich())[:31], wantBytes(rich())[1:], wantBytes(rich())[:8], almost, joined(almost, almost), make([]byte, 100), bytes.Repeat([]byte{255}, 33)}
	for n := range 70 {
		heads = append(heads, marks(n), noise(r, n), make([]byte, n))
	}
	for _, head := range heads {
		for _, p := range []api.Packet{{}, example(), rich(), anyPacket(r)} {
			for _, tail := range [][]byte{nil, {0xD5}, {7, 8, 9}, marks(40), wantBytes(example()), wantBytes(example())[:31]} {
				b := joined(head, wantBytes(p), tail)
				taken(t, b, "behind", len(head))
				if q, n, err := Take(b); q != p || n != len(head)+32 || err != api.OK {
					t.Errorf("behind %X: %+v, %d, %v", head, q, n, err)
				}
			}
		}
	}
}

// P5.3: packets one behind the other come one by one, the first one first.
func TestOneByOne(t *testing.T) {
	r := rand.New(rand.NewSource(5))
	for range 200 {
		var all []api.Packet
		var b []byte
		for range r.Intn(12) {
			p := anyPacket(r)
			all, b = append(all, p), append(b, wantBytes(p)...)
		}
		for _, p := range all {
			q, n, err := Take(b)
			if q != p || n != 32 || err != api.OK {
				t.Fatalf("%+v, %d, %v, not %+v", q, n, err, p)
			}
			b = b[n:]
		}
		if q, n, err := Take(b); q != empty || n != 0 || err != api.ErrLink {
			t.Errorf("behind all: %+v, %d, %v", q, n, err)
		}
	}
}

// inside are the bytes of a packet, and of another that begins at place k of it; nil if the first one may not have D5 there.
func inside(r *rand.Rand, k int) []byte {
	for range 200000 {
		b := make([]byte, k+32)
		r.Read(b)
		for _, at := range []int{0, k} {
			b[at], b[at+1], b[at+29] = 0xD5, b[at+1]&1, 0
			b[at+6] &= 15
			b[at+28] &= 31
		}
		if b[0] != 0xD5 || b[29] != 0 || b[28] > 31 || b[6] > 15 || b[1] > 1 {
			return nil
		}
		copy(b, summed(b))
		copy(b[k:], summed(b[k:]))
		_, outer := wantPacket(b[:32])
		if _, inner := wantPacket(b[k:]); outer && inner {
			return b
		}
	}
	return nil
}

// P5.3: of two packets, one of which begins inside the other's bytes, the one at the lesser place is taken; without it, or behind its first byte, the other one.
func TestInside(t *testing.T) {
	r, found := rand.New(rand.NewSource(6)), 0
	for k := 1; k < 32; k++ {
		b := inside(r, k)
		if b == nil {
			continue
		}
		found++
		outer, _ := wantPacket(b[:32])
		inner, _ := wantPacket(b[k:])
		if p, n, err := Take(b); p != outer || n != 32 || err != api.OK {
			t.Errorf("at %d: %+v, %d, %v", k, p, n, err)
		}
		if p, n, err := Take(b[1:]); p != inner || n != k+31 || err != api.OK {
			t.Errorf("at %d, without the first byte: %+v, %d, %v", k, p, n, err)
		}
		c := slices.Clone(b)
		c[1] ^= 1
		if p, n, err := Take(c); p != inner || n != k+32 || err != api.OK {
			t.Errorf("at %d, the outer one broken: %+v, %d, %v", k, p, n, err)
		}
		for cut := range len(b) {
			taken(t, b[:cut], "inside, at", k, "cut at", cut)
			taken(t, c[:cut], "broken, at", k, "cut at", cut)
		}
	}
	if found != 31-4 { // all but those of From, Mode, Good and the byte 0
		t.Errorf("%d places", found)
	}
}

// P5.3: bytes that end in the midst of a packet are kept from its first byte on, or from a D5 ahead of it, if fewer than thirty-two are left from there on.
func TestMidst(t *testing.T) {
	b := wantBytes(example())
	for cut := 1; cut < 32; cut++ {
		for _, head := range [][]byte{nil, {7}, make([]byte, 31), make([]byte, 32), make([]byte, 100), wantBytes(example())[1:]} {
			if p, n, err := Take(joined(head, b[:cut])); p != empty || n != len(head) || err != api.ErrLink {
				t.Errorf("%d bytes of one behind %d: %+v, %d, %v", cut, len(head), p, n, err)
			}
		}
		for n := range 40 {
			want := min(n, max(0, n+cut-31))
			if _, got, err := Take(joined(marks(n), b[:cut])); got != want || err != api.ErrLink {
				t.Errorf("%d bytes of one behind %d marks: %d, %v", cut, n, got, err)
			}
		}
	}
}

// P5.3: D5 begins one that might still come only with fewer than thirty-two bytes from it on, and whatever stands behind it.
func TestMightCome(t *testing.T) {
	for n := 1; n <= 100; n++ {
		for at := range n {
			b := bytes.Repeat([]byte{0xFF}, n)
			b[at] = 0xD5
			want := n
			if n-at < 32 {
				want = at
			}
			if p, got, err := Take(b); p != empty || got != want || err != api.ErrLink {
				t.Errorf("%d bytes, D5 at %d: %+v, %d, %v", n, at, p, got, err)
			}
		}
		if p, got, err := Take(marks(n)); p != empty || got != max(0, n-31) || err != api.ErrLink {
			t.Errorf("%d marks: %+v, %d, %v", n, p, got, err)
		}
		for _, c := range []byte{0, 1, 0xD4, 0xD6, 0x5D, 0xFF} {
			if p, got, err := Take(bytes.Repeat([]byte{c}, n)); p != empty || got != n || err != api.ErrLink {
				t.Errorf("%d bytes %X: %+v, %d, %v", n, c, p, got, err)
			}
		}
	}
}

// P5.3: bytes of all kinds, with packets, pieces of packets and broken ones among them, against the promise's words.
func TestMixed(t *testing.T) {
	r := rand.New(rand.NewSource(7))
	for range 4000 {
		var b []byte
		for range r.Intn(6) {
			p := wantBytes(anyPacket(r))
			switch r.Intn(4) {
			case 0:
				b = append(b, p...)
			case 1:
				b = append(b, p[r.Intn(32):]...)
			case 2:
				p[r.Intn(32)]++
				b = append(b, p[:1+r.Intn(32)]...)
			default:
				b = append(b, noise(r, r.Intn(50))...)
			}
		}
		told(t, b, "mixed")
	}
}

// arrived are the packets that come out of bytes which arrive in pieces, what Take leaves of each being kept for the next.
func arrived(t *testing.T, b []byte, piece func() int) []api.Packet {
	var got []api.Packet
	var kept []byte
	for len(b) > 0 {
		n := min(piece(), len(b))
		kept, b = append(kept, b[:n]...), b[n:]
		for {
			p, gone, err := Take(kept)
			kept = kept[gone:]
			if err != api.OK {
				break
			}
			got = append(got, p)
		}
		if len(kept) > 31 {
			t.Fatalf("%d bytes are kept", len(kept))
		}
	}
	return got
}

// P5.4: packets come out as they were, whatever stands between them, and in whatever pieces they arrive.
func TestPieces(t *testing.T) {
	r := rand.New(rand.NewSource(8))
	for range 100 {
		var sent []api.Packet
		var b []byte
		for range 20 {
			p := anyPacket(r)
			sent, b = append(sent, p), append(append(b, noise(r, r.Intn(3)*r.Intn(40))...), wantBytes(p)...)
		}
		for _, size := range []int{1, 2, 31, 32, 33, 64, len(b)} {
			if got := arrived(t, b, func() int { return size }); !slices.Equal(got, sent) {
				t.Errorf("pieces of %d: %d packets of %d", size, len(got), len(sent))
			}
		}
		if got := arrived(t, b, func() int { return 1 + r.Intn(90) }); !slices.Equal(got, sent) {
			t.Errorf("pieces: %d packets of %d", len(got), len(sent))
		}
	}
}

// P5.3, R1: megabytes end soon, those in which one seems to begin again and again too.
func TestVeryLong(t *testing.T) {
	seeming := bytes.Repeat([]byte{0xD5, 0, 0, 0, 0, 0, 0}, 300000)
	for _, b := range [][]byte{make([]byte, 3<<20), marks(1 << 20), seeming} {
		_, rest, err := Take(b)
		if err != api.ErrLink || rest < len(b)-31 {
			t.Errorf("%d bytes: %d, %v", len(b), rest, err)
		}
		if p, n, err := Take(joined(b, wantBytes(rich()))); p != rich() || n != len(b)+32 || err != api.OK {
			t.Errorf("behind %d bytes: %+v, %d, %v", len(b), p, n, err)
		}
	}
}

// R4, R5: bytes are as they were behind each call, their spare room too, and what stands in that room tells nothing.
func TestHandedIn(t *testing.T) {
	r := rand.New(rand.NewSource(9))
	for n := range 100 {
		for _, whole := range [][]byte{joined(wantBytes(rich()), wantBytes(example()), wantBytes(rich()), wantBytes(empty)), joined(noise(r, 20), wantBytes(rich()), marks(80)), noise(r, 140), marks(140)} {
			was := slices.Clone(whole)
			p, err := Decode(whole[:n])
			q, m, e := Take(whole[:n])
			if !bytes.Equal(whole, was) {
				t.Errorf("%d bytes were changed", n)
			}
			alone := slices.Clip(slices.Clone(whole[:n]))
			if p2, err2 := Decode(alone); p2 != p || err2 != err {
				t.Errorf("%d bytes alone: %+v, %v", n, p2, err2)
			}
			if q2, m2, e2 := Take(alone); q2 != q || m2 != m || e2 != e {
				t.Errorf("%d bytes alone: %+v, %d, %v", n, q2, m2, e2)
			}
			told(t, whole[:n], "with room", n)
		}
	}
}

// R4: what Encode answers is new memory each time, its spare room too.
func TestNewMemory(t *testing.T) {
	first, second := encoded(t, rich()), encoded(t, rich())
	for _, b := range [][]byte{first[:cap(first)], append(first, 1, 2, 3)} {
		for i := range b {
			b[i] = 0xAA
		}
	}
	if !bytes.Equal(second, wantBytes(rich())) || !bytes.Equal(encoded(t, rich()), wantBytes(rich())) {
		t.Errorf("%X", second)
	}
	p, _ := Decode(second)
	second[9] ^= 1
	if p != rich() {
		t.Errorf("%+v", p)
	}
}
