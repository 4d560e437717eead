package nvm

import (
	"math"
	"slices"
	"testing"

	"turbojet/api"
)

// The chapter's numbers.
const (
	mostWords = 512
	errArg    = 1
	errPower  = 110
	errWord   = 111
)

// never is how many writes are left where the power never goes.
const never = -1

// want is what a memory should be, by the promises' words.
type want struct {
	words []uint32
	gone  bool
	left  int
	many  int
}

func wantNew(words int) *want { return &want{words: make([]uint32, words), left: never} }

func (x *want) has(i int) bool { return 0 <= i && i <= len(x.words)-1 }

func (x *want) write(i int, w uint32) api.Errno {
	if x.gone {
		return errPower
	}
	if !x.has(i) {
		return errWord
	}
	if x.left == 0 {
		x.gone = true
		return errPower
	}
	if x.left != never {
		x.left--
	}
	x.words[i] = w
	x.many++
	return api.OK
}

func (x *want) read(i int) (uint32, api.Errno) {
	if x.gone {
		return 0, errPower
	}
	if !x.has(i) {
		return 0, errWord
	}
	return x.words[i], api.OK
}

func (x *want) arm(writes int) {
	if x.gone {
		return
	}
	x.left = max(writes, never)
}

func (x *want) up() { x.gone, x.left = false, never }

// pair is a memory, beside what it should be.
type pair struct {
	t *testing.T
	m *Memory
	x *want
}

func made(t *testing.T, words int) pair {
	t.Helper()
	m, err := New(words)
	if m == nil || err != api.OK {
		t.Fatalf("New(%d): %v, %d", words, m, err)
	}
	p := pair{t, m, wantNew(words)}
	p.same("new")
	return p
}

// places are those of all words, and others: neighbours, the ends of an int, and numbers that are a place in fewer bits.
func places(words int) []int {
	l := []int{math.MinInt, math.MinInt + 1, -1 << 32, -1<<32 + 1, -1 << 31, -words - 1, -words, -2, -1}
	for i := range words {
		l = append(l, i)
	}
	return append(l, words, words+1, 2*words+1, mostWords, mostWords+1, 1<<8, 1<<9, 1<<16, 1<<16+1, 1<<31-1, 1<<31, 1<<32, 1<<32+1, 1<<62, math.MaxInt-1, math.MaxInt)
}

// values are words of all 32 bits.
func values() []uint32 {
	l := []uint32{0, 1, 2, 0xFF, 0x100, 0xFFFF, 0x10000, 0x7FFFFFFF, 0x80000000, 0x80000001, 0xAAAAAAAA, 0x55555555, 0x12345678, 0xFFFFFFFE, 0xFFFFFFFF}
	for bit := range 32 {
		l = append(l, 1<<bit, ^uint32(1<<bit))
	}
	return l
}

// same holds all that calls tell without changing anything against what they should.
func (p pair) same(when string) {
	p.t.Helper()
	if p.m.Words() != len(p.x.words) || p.m.Down() != p.x.gone || p.m.Many() != p.x.many {
		p.t.Fatalf("%s: %d words, gone %v, %d writes; not %d, %v, %d", when, p.m.Words(), p.m.Down(), p.m.Many(), len(p.x.words), p.x.gone, p.x.many)
	}
	for _, i := range places(len(p.x.words)) {
		w, err := p.m.Read(i)
		if word, errno := p.x.read(i); w != word || err != errno {
			p.t.Fatalf("%s: word %d: %X, %d; not %X, %d", when, i, w, err, word, errno)
		}
	}
}

func (p pair) write(i int, w uint32) api.Errno {
	p.t.Helper()
	err := p.m.Write(i, w)
	if errno := p.x.write(i, w); err != errno {
		p.t.Fatalf("Write(%d, %X): %d, not %d", i, w, err, errno)
	}
	return err
}

func (p pair) arm(writes int) {
	p.m.Arm(writes)
	p.x.arm(writes)
}

func (p pair) up() {
	p.m.Up()
	p.x.up()
}

// cut lets the power go at once.
func (p pair) cut() {
	p.t.Helper()
	p.arm(0)
	if p.write(0, 0xBAD) != errPower || !p.m.Down() {
		p.t.Fatal("the power is not gone")
	}
}

// lasts holds that the power does not go any more, in as many writes as a memory may well be asked for.
func (p pair) lasts(when string) {
	p.t.Helper()
	for n := range 3000 {
		if err := p.m.Write(n%len(p.x.words), uint32(n)); err != api.OK || p.m.Down() {
			p.t.Fatalf("%s: write %d: %d, gone %v", when, n, err, p.m.Down())
		}
		p.x.write(n%len(p.x.words), uint32(n))
	}
	p.same(when)
}

// filled has words other than one another, and than 0.
func filled(t *testing.T, words int) pair {
	t.Helper()
	p := made(t, words)
	for i := range words {
		p.write(i, uint32(i+1)*0x9E3779B1)
	}
	p.same("filled")
	return p
}

// P11.1, P11.2: the chapter's numbers.
func TestNumbers(t *testing.T) {
	if api.ErrArg != errArg || api.ErrPower != errPower || api.ErrWord != errWord || api.OK != 0 || api.MaxWords != mostWords {
		t.Errorf("ErrArg is %d, ErrPower %d, ErrWord %d, OK %d, MaxWords %d", api.ErrArg, api.ErrPower, api.ErrWord, api.OK, api.MaxWords)
	}
}

// P11.2, P11.3: the chapter's examples.
func TestExamples(t *testing.T) {
	m, _ := New(2)
	m.Arm(1)
	if err := m.Write(0, 5); err != api.OK {
		t.Errorf("Write(0, 5): %d", err)
	}
	if err := m.Write(1, 6); err != errPower {
		t.Errorf("Write(1, 6): %d", err)
	}
	if w, err := m.Read(0); w != 0 || err != errPower {
		t.Errorf("Read(0): %d, %d", w, err)
	}
	m.Up()
	for i, word := range []uint32{5, 0} {
		if w, err := m.Read(i); w != word || err != api.OK {
			t.Errorf("Read(%d), with power again: %d, %d", i, w, err)
		}
	}
}

// P11.1: memories of as many words as may be: all 0, with power, that never goes; each word is one of its own.
func TestNew(t *testing.T) {
	for _, n := range []int{1, 2, 3, 4, 64, 255, 256, 257, 511, 512} {
		p := made(t, n)
		if p.m.Words() != n || p.m.Down() || p.m.Many() != 0 {
			t.Errorf("%d: %d words, gone %v, %d writes", n, p.m.Words(), p.m.Down(), p.m.Many())
		}
		for i := range n {
			if w, err := p.m.Read(i); w != 0 || err != api.OK {
				t.Errorf("%d: word %d: %X, %d", n, i, w, err)
			}
		}
		for i := range n {
			p.write(i, uint32(i+1)<<20|uint32(i))
		}
		p.same("written")
		p.lasts("behind 3000 writes")
	}
}

// P11.1: as many words as may not be: an error, and no memory beside it.
func TestNewBad(t *testing.T) {
	for _, n := range []int{math.MinInt, math.MinInt + 1, -1 << 62, -1 << 32, -1<<32 + 4, -1 << 31, -mostWords, -2, -1, mostWords + 1, mostWords + 2, 1 << 16, 1<<16 + 4, 1 << 31, 1 << 32, 1<<32 + 4, 1 << 62, math.MaxInt - 1, math.MaxInt} {
		if m, err := New(n); m != nil || err != errArg {
			t.Errorf("New(%d): %v, %d", n, m, err)
		}
	}
}

// P11.2: each word, of all bits, is read as it was written, and no other one is touched.
func TestWords(t *testing.T) {
	p := filled(t, 5)
	for i := range 5 {
		for _, w := range values() {
			if p.write(i, w) != api.OK {
				t.Errorf("Write(%d, %X)", i, w)
			}
			p.same("written")
			if got, err := p.m.Read(i); got != w || err != api.OK {
				t.Errorf("word %d: %X, %d, not %X", i, got, err, w)
			}
		}
	}
	p.write(2, 7)
	p.write(2, 7)
	p.same("written again as it was")
}

// P11.2: with power, at places of words and at others.
func TestPlaces(t *testing.T) {
	for _, n := range []int{0, 1, 2, 4, mostWords} {
		p := filled(t, n)
		for _, i := range places(n) {
			err, errno := p.write(i, 0xC0FFEE), api.Errno(errWord)
			if i >= 0 && i < n {
				errno = api.OK
			}
			if err != errno {
				t.Errorf("%d words: Write(%d): %d", n, i, err)
			}
			if w, got := p.m.Read(i); got != errno || errno == api.OK && w != 0xC0FFEE || errno != api.OK && w != 0 {
				t.Errorf("%d words: Read(%d): %X, %d", n, i, w, got)
			}
		}
		p.same("behind all places")
	}
}

// P11.2: without power it is ErrPower wherever, ahead of ErrWord; and all is as it was, when it is back.
func TestPlacesWithoutPower(t *testing.T) {
	for _, n := range []int{1, 2, 4, mostWords} {
		p := filled(t, n)
		was := slices.Clone(p.x.words)
		p.cut()
		for _, i := range places(n) {
			if err := p.write(i, 0xC0FFEE); err != errPower {
				t.Errorf("%d words: Write(%d): %d", n, i, err)
			}
			if w, err := p.m.Read(i); w != 0 || err != errPower {
				t.Errorf("%d words: Read(%d): %X, %d", n, i, w, err)
			}
		}
		p.same("without power")
		if p.m.Words() != n || !p.m.Down() || p.m.Many() != n {
			t.Errorf("%d words: %d words, gone %v, %d writes", n, p.m.Words(), p.m.Down(), p.m.Many())
		}
		p.up()
		p.same("with power again")
		if !slices.Equal(p.x.words, was) {
			t.Errorf("%d words: %X became %X", n, was, p.x.words)
		}
	}
}

// outside are places of no word.
func outside(words int) []int {
	return slices.DeleteFunc(places(words), func(i int) bool { return i >= 0 && i < words })
}

// P11.2: a Write outside of the words takes none of the writes that are left, and does not let the power go where none is left: ErrWord is told ahead of that.
func TestOutsideTakesNone(t *testing.T) {
	for left := range 5 {
		p := filled(t, 3)
		p.arm(left)
		for n := range left + 1 {
			for _, i := range outside(3) {
				if err := p.write(i, 9); err != errWord || p.m.Down() {
					t.Fatalf("%d of %d writes done: Write(%d): %d, gone %v", n, left, i, err, p.m.Down())
				}
			}
			p.same("behind writes outside")
			err := p.write(n%3, uint32(n))
			if n < left && (err != api.OK || p.m.Down()) || n == left && (err != errPower || !p.m.Down()) {
				t.Fatalf("%d of %d writes done: %d, gone %v", n, left, err, p.m.Down())
			}
			p.same("behind a write")
		}
	}
}

// P11.2: Read takes none of the writes that are left, and lets no power go.
func TestReadTakesNone(t *testing.T) {
	p := filled(t, 3)
	p.arm(2)
	for n := range 3 {
		for range 10 {
			p.same("asked again")
		}
		if err := p.write(n, 77); (err == api.OK) != (n < 2) {
			t.Errorf("write %d: %d", n, err)
		}
	}
}

// P11.2: a Write that fails for want of power is not counted, nor is any other that fails; each that is done is, one that changes nothing too.
func TestMany(t *testing.T) {
	p := made(t, 2)
	told := func(many int) {
		t.Helper()
		for range 3 {
			if got := p.m.Many(); got != many {
				t.Errorf("%d writes, not %d", got, many)
			}
		}
	}
	told(0)
	p.write(0, 0)
	told(1)
	p.write(2, 5)
	p.write(-1, 5)
	told(1)
	p.arm(1)
	told(1)
	p.write(1, 5)
	told(2)
	p.write(1, 6)
	told(2)
	p.write(1, 6)
	p.write(9, 6)
	told(2)
	p.up()
	told(2)
	p.write(1, 6)
	told(3)
	for range 1000 {
		p.write(0, 1)
	}
	told(1003)
	p.same("behind all")
}

// P11.3: the power goes behind just so many writes, at the one that is too much, and not before.
func TestArm(t *testing.T) {
	for _, left := range []int{0, 1, 2, 3, 7, 100, 1000} {
		p := filled(t, 4)
		p.arm(left)
		p.same("armed")
		for n := range left {
			if err := p.m.Write(n%4, uint32(n)); err != api.OK || p.m.Down() {
				t.Fatalf("Arm(%d): write %d: %d, gone %v", left, n, err, p.m.Down())
			}
			p.x.write(n%4, uint32(n))
		}
		p.same("behind the last one that is left")
		if err := p.write(left%4, 0xBAD); err != errPower || !p.m.Down() {
			t.Errorf("Arm(%d): the next one: %d, gone %v", left, err, p.m.Down())
		}
		p.same("gone")
		p.up()
		p.lasts("with power again")
	}
}

// P11.3: with Arm of a number below 0 the power never goes; nor, as far as can be told, with one of the greatest, that in fewer bits is 0, or below.
func TestArmNever(t *testing.T) {
	for _, writes := range []int{-1, -2, -7, -1 << 31, -1 << 32, -1<<32 + 1, -1 << 62, math.MinInt + 1, math.MinInt, 1 << 16, 1 << 31, 1 << 32, 1<<32 + 1, 1 << 62, math.MaxInt - 1, math.MaxInt} {
		p := filled(t, 3)
		p.arm(writes)
		p.lasts("armed")
		p.arm(2)
		p.arm(writes)
		p.lasts("armed with 2 ahead of it")
		p.arm(0)
		p.arm(writes)
		p.lasts("armed with 0 ahead of it")
		p.cut()
		p.same("armed with 0 behind it")
	}
}

// P11.3: the last Arm alone is what holds, whether writes were done between or not.
func TestArmAgain(t *testing.T) {
	armed := []int{0, 1, 2, 3, -1, math.MinInt, math.MaxInt}
	for _, first := range armed {
		for _, done := range []int{0, 1, 2} {
			if first >= 0 && done > first {
				continue
			}
			for _, second := range []int{0, 1, 2, 3} {
				p := filled(t, 2)
				p.arm(first)
				for n := range done {
					p.write(n, 5)
				}
				p.arm(second)
				p.same("armed again")
				for n := range second {
					if err := p.write(n%2, uint32(n)); err != api.OK {
						t.Errorf("Arm(%d), %d writes, Arm(%d): write %d: %d", first, done, second, n, err)
					}
				}
				if err := p.write(0, 9); err != errPower {
					t.Errorf("Arm(%d), %d writes, Arm(%d): the last one: %d", first, done, second, err)
				}
				p.same("gone")
			}
		}
	}
}

// P11.3: Arm does nothing while the power is gone: it stays gone, and, when it is back, never goes.
func TestArmWithoutPower(t *testing.T) {
	for _, writes := range []int{0, 1, 2, 100, -1, -7, math.MinInt, math.MaxInt} {
		p := filled(t, 3)
		p.cut()
		p.arm(writes)
		p.arm(writes)
		p.same("armed while it is gone")
		if err := p.write(0, 5); err != errPower || !p.m.Down() {
			t.Errorf("Arm(%d): %d, gone %v", writes, err, p.m.Down())
		}
		p.up()
		p.same("with power again")
		p.lasts("with power again")
	}
}

// P11.3: behind Up the power never goes, whatever was armed, whether it was gone or not; and can be armed again.
func TestUp(t *testing.T) {
	for _, writes := range []int{0, 1, 2, 100, -1, math.MinInt, math.MaxInt} {
		p := filled(t, 3)
		p.up()
		p.same("up that was never armed")
		p.arm(writes)
		p.up()
		p.same("up with power")
		p.lasts("up with power")
		p.cut()
		p.up()
		p.up()
		p.same("up without power")
		p.lasts("up without power")
		p.arm(1)
		if p.write(0, 1) != api.OK || p.write(0, 2) != errPower {
			t.Error("it can't be armed again")
		}
		p.same("armed again")
	}
}

// P11.1, P11.2, P11.3: a memory of no words has none to write or to read, and so no write that could let its power go.
func TestNoWords(t *testing.T) {
	p := made(t, 0)
	if p.m.Words() != 0 || p.m.Down() || p.m.Many() != 0 {
		t.Errorf("%d words, gone %v, %d writes", p.m.Words(), p.m.Down(), p.m.Many())
	}
	for _, writes := range []int{0, 1, -1, math.MinInt, math.MaxInt} {
		p.arm(writes)
		for _, i := range places(0) {
			if err := p.write(i, 5); err != errWord {
				t.Errorf("Arm(%d), Write(%d): %d", writes, i, err)
			}
			if w, err := p.m.Read(i); w != 0 || err != errWord {
				t.Errorf("Arm(%d), Read(%d): %X, %d", writes, i, w, err)
			}
		}
		p.same("armed")
		p.up()
		p.same("up")
	}
}

// R1: a nil memory: ErrArg where an error is answered, else zero values; whatever it was told ahead.
func TestNil(t *testing.T) {
	var m *Memory
	for _, writes := range []int{0, 1, -1, math.MinInt, math.MaxInt} {
		for _, i := range places(2) {
			if err := m.Write(i, 5); err != errArg {
				t.Errorf("Write(%d): %d", i, err)
			}
			if w, err := m.Read(i); w != 0 || err != errArg {
				t.Errorf("Read(%d): %X, %d", i, w, err)
			}
		}
		if m.Words() != 0 || m.Down() || m.Many() != 0 {
			t.Errorf("%d words, gone %v, %d writes", m.Words(), m.Down(), m.Many())
		}
		m.Arm(writes)
		m.Up()
		m.Arm(writes)
	}
}

// R1: one that New did not make: no call panics, and it is as one of no words.
func TestHandMade(t *testing.T) {
	p := pair{t, new(Memory), wantNew(0)}
	p.same("its zero value")
	for _, writes := range []int{0, 1, 2, -1, math.MinInt, math.MaxInt} {
		p.arm(writes)
		for _, i := range places(1) {
			if err := p.write(i, 5); err != errWord {
				t.Errorf("Arm(%d), Write(%d): %d", writes, i, err)
			}
		}
		p.same("armed")
		p.up()
		p.same("up")
	}
	var first, second, third, fourth Memory
	first.Arm(0)
	second.Up()
	if third.Write(0, 1) != errWord || fourth.Down() || first.Down() || second.Words() != 0 || first.Many() != 0 {
		t.Error("asked first")
	}
}

// P11.4: behind a cut at each one of a row of writes those ahead of it are whole, and all else is as it was.
func TestCut(t *testing.T) {
	type one struct {
		i int
		w uint32
	}
	row := []one{{3, 0}, {4, 0xFFFFFFFF}, {0, 0x12345678}, {3, 0x80000001}, {1, 7}, {1, 7}, {4, 0}, {0, 0x87654321}}
	for at := range len(row) + 1 {
		p := filled(t, 5)
		words := slices.Clone(p.x.words)
		p.arm(at)
		for n, o := range row {
			err := p.m.Write(o.i, o.w)
			if n < at && err != api.OK || n >= at && err != errPower || p.m.Down() != (n >= at) {
				t.Fatalf("cut at %d: write %d: %d, gone %v", at, n, err, p.m.Down())
			}
			if n < at {
				words[o.i] = o.w
			}
		}
		p.m.Up()
		for i, word := range words {
			if w, err := p.m.Read(i); w != word || err != api.OK {
				t.Errorf("cut at %d: word %d: %X, %d, not %X", at, i, w, err, word)
			}
		}
		if p.m.Many() != 5+at {
			t.Errorf("cut at %d: %d writes", at, p.m.Many())
		}
	}
}

// R5: two memories beside one another: what one is told changes nothing of the other one, nor of one made behind it.
func TestTwo(t *testing.T) {
	one, two := filled(t, 3), made(t, 3)
	if one.m == two.m {
		t.Fatal("New gives the same again")
	}
	two.same("behind the first one was filled")
	one.cut()
	two.same("behind the first one's power went")
	two.arm(1)
	one.up()
	one.lasts("behind the second one was armed")
	two.same("armed")
	if two.write(1, 8) != api.OK || two.write(1, 9) != errPower {
		t.Error("the second one's writes")
	}
	one.same("behind the second one's power went")
	one.lasts("behind the second one's power went")
	one.up()
	if !two.m.Down() {
		t.Error("Up of the first one brought the second one's power back")
	}
	two.same("gone")
	made(t, 3)
	made(t, mostWords)
}

// draw is numbers of a short rule, below n.
type draw uint64

func (d *draw) below(n int) int {
	*d = *d*6364136223846793005 + 1442695040888963407
	return int(*d>>33) % n
}

// P11.2, P11.3: long rows of calls of all kinds, against the promises' words behind each of them.
func TestAsTold(t *testing.T) {
	var gone, outsideLeft, armedGone int
	for seed := range 300 {
		d := draw(seed)
		words := d.below(6)
		p := made(t, words)
		around, armed := places(words), []int{0, 0, 1, 1, 2, 3, 5, 8, -1, -3, math.MinInt, math.MaxInt, 1 << 32}
		for range 120 {
			switch d.below(12) {
			case 0, 1:
				if p.x.gone {
					armedGone++
				}
				p.arm(armed[d.below(len(armed))])
			case 2:
				p.up()
			case 3, 4:
				err := p.write(around[d.below(len(around))], uint32(d.below(1<<31))<<1)
				if err == errWord && p.x.left == 0 {
					outsideLeft++
				}
			default:
				if words > 0 && p.write(d.below(words), uint32(d.below(1<<31))<<1|1) == errPower {
					gone++
				}
			}
			p.same("behind a call")
		}
	}
	if gone < 1000 || outsideLeft < 100 || armedGone < 100 {
		t.Errorf("gone %d times, outside with none left %d times, armed while gone %d times: too seldom to tell", gone, outsideLeft, armedGone)
	}
}
