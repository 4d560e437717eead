package inject

import (
	"math"
	"slices"
	"testing"

	"turbojet/api"
)

const (
	end = 65535   // the greatest count
	far = 1 << 30 // the greatest number of frames
)

func of(kind, size, from, long int) api.Inject {
	return api.Inject{Kind: kind, Size: size, From: from, Long: long}
}

// numbers are counts, ones just outside of them, and ones around the ends of fixed numbers and of an int.
func numbers() []int {
	return []int{math.MinInt, math.MinInt + 1, -1 << 40, api.Least - 1, api.Least, -end - 1, -end, -2, -1, 0, 1, 2, 7, 100, end / 2, end - 100, end - 1, end, end + 1, end + 2, 2 * end, api.Most, api.Most + 1, 1 << 40, math.MaxInt - 1, math.MaxInt}
}

func clamped(n int) int { return min(max(n, 0), end) }

// may is P7.1's first half, word by word.
func may(j api.Inject) bool {
	return j.Kind >= 0 && j.Kind <= 6 && j.Size >= -end && j.Size <= end && j.From >= 0 && j.From <= far && j.Long >= 0 && j.Long <= far
}

// there is P7.1's second half.
func there(j api.Inject, frame int) bool {
	return may(j) && j.Kind != 0 && frame >= j.From && frame < j.From+j.Long
}

// applied is P7.2, reckoned without saturation: no product of a fault that may be is beyond an int. Kinds stand as the chapter's numbers.
func applied(l []api.Inject, frame, last, count int) int {
	n := clamped(count)
	for _, j := range l {
		if !there(j, frame) {
			continue
		}
		if j.Kind == 1 || j.Kind == 5 && (frame-j.From)%2 == 0 {
			n += j.Size
		} else if j.Kind == 2 {
			n = clamped(last)
		} else if j.Kind == 3 {
			n = end
		} else if j.Kind == 4 {
			n = 0
		} else if j.Kind == 6 {
			n += j.Size * (frame - j.From + 1)
		}
		n = clamped(n)
	}
	return n
}

// bad are faults that may not be, each for one cause (but the last ones).
func bad() []api.Inject {
	return []api.Inject{
		of(-1, 5, 0, 3), of(7, 5, 0, 3), of(8, 5, 0, 3), of(1<<32+1, 5, 0, 3), of(math.MinInt, 5, 0, 3), of(math.MaxInt, 5, 0, 3),
		of(1, -end-1, 0, 3), of(1, end+1, 0, 3), of(1, 1<<32+5, 0, 3), of(1, math.MinInt, 0, 3), of(1, math.MaxInt, 0, 3),
		of(2, end+1, 0, 3), of(3, end+1, 0, 3), of(4, -end-1, 0, 3), of(5, end+1, 0, 3), of(6, -end-1, 0, 3), of(0, end+1, 0, 3),
		of(1, 5, -1, 3), of(1, 5, far+1, 3), of(1, 5, -1<<32, 1<<30), of(1, 5, math.MinInt, 3), of(1, 5, math.MaxInt, 3),
		of(1, 5, 0, -1), of(1, 5, 0, far+1), of(1, 5, 0, 1<<32), of(1, 5, 0, math.MinInt), of(1, 5, 0, math.MaxInt),
		of(3, 0, 0, far+1), of(4, 0, far+1, far), of(0, 0, 0, -1), of(0, 0, -1, 0),
		of(math.MinInt, math.MinInt, math.MinInt, math.MinInt), of(math.MaxInt, math.MaxInt, math.MaxInt, math.MaxInt), of(-1, end+1, -1, far+1),
	}
}

// P7.1: the chapter's numbers.
func TestNumbers(t *testing.T) {
	kinds := []int{api.JNone, api.JBias, api.JFreeze, api.JOpen, api.JShort, api.JSpike, api.JDrift}
	own := []int{none, bias, freeze, open, short, spike, drift}
	for want, kind := range kinds {
		if kind != want || own[want] != want {
			t.Errorf("the Kind %d is %d here, and %d in api", want, own[want], kind)
		}
	}
	if api.MaxCount != end || api.MaxTime != far || api.ErrArg != 1 {
		t.Errorf("MaxCount is %d, MaxTime %d, ErrArg %d", api.MaxCount, api.MaxTime, api.ErrArg)
	}
}

// P7.1: each field at its ends and one beyond, and at the ends of an int.
func TestCheck(t *testing.T) {
	for _, j := range []api.Inject{
		{}, of(0, 0, 0, 1), of(1, 5, 0, 3), of(2, 0, 7, 9), of(3, 0, 7, 9), of(4, 0, 7, 9), of(5, -5, 7, 9), of(6, 5, 7, 9), of(6, 0, 0, 0),
		of(1, -end, 0, 3), of(1, end, 0, 3), of(0, -end, 0, 3), of(6, end, 0, 3),
		of(1, 5, far, 3), of(1, 5, 0, far), of(1, 5, far, far), of(6, -end, far, far), of(0, end, far, far), of(1, 5, far, 0),
	} {
		if err := Check(j); err != api.OK {
			t.Errorf("Check(%v) = %d", j, err)
		}
	}
	for _, j := range bad() {
		if err := Check(j); err != api.ErrArg {
			t.Errorf("Check(%v) = %d", j, err)
		}
	}
}

// P7.1: all fields together, around their ends, against what the promise says.
func TestCheckFields(t *testing.T) {
	for _, kind := range []int{math.MinInt, -2, -1, 0, 1, 2, 3, 4, 5, 6, 7, 8, math.MaxInt} {
		for _, size := range []int{math.MinInt, -end - 2, -end - 1, -end, -1, 0, 1, end, end + 1, end + 2, math.MaxInt} {
			for _, from := range []int{math.MinInt, -far, -1, 0, 1, far - 1, far, far + 1, 2 * far, math.MaxInt} {
				for _, long := range []int{math.MinInt, -far, -1, 0, 1, far - 1, far, far + 1, 2 * far, math.MaxInt} {
					j, want := of(kind, size, from, long), api.ErrArg
					if may(j) {
						want = api.OK
					}
					if err := Check(j); err != want {
						t.Fatalf("Check(%v) = %d, not %d", j, err, want)
					}
				}
			}
		}
	}
}

// P7.1: one frame ahead of From, at it, at the last frame and one behind it, by hand.
func TestOn(t *testing.T) {
	for _, c := range []struct {
		j     api.Inject
		frame int
		want  bool
	}{
		{of(1, 5, 0, 3), -1, false}, {of(1, 5, 0, 3), 0, true}, {of(1, 5, 0, 3), 1, true}, {of(1, 5, 0, 3), 2, true}, {of(1, 5, 0, 3), 3, false}, {of(1, 5, 0, 3), 4, false},
		{of(1, 5, 10, 1), 9, false}, {of(1, 5, 10, 1), 10, true}, {of(1, 5, 10, 1), 11, false},
		{of(6, 5, 10, 20), 9, false}, {of(6, 5, 10, 20), 10, true}, {of(6, 5, 10, 20), 20, true}, {of(6, 5, 10, 20), 29, true}, {of(6, 5, 10, 20), 30, false},
		{of(1, 5, 0, 0), -1, false}, {of(1, 5, 0, 0), 0, false}, {of(1, 5, 0, 0), 1, false}, {of(1, 5, 7, 0), 6, false}, {of(1, 5, 7, 0), 7, false}, {of(1, 5, 7, 0), 8, false},
		{of(1, 5, far, far), far - 1, false}, {of(1, 5, far, far), far, true}, {of(1, 5, far, far), far + 1, true}, {of(1, 5, far, far), 2*far - 1, true}, {of(1, 5, far, far), 2 * far, false}, {of(1, 5, far, far), 2*far + 1, false},
		{of(1, 5, far, 1), far, true}, {of(1, 5, far, 1), far + 1, false}, {of(1, 5, far, 0), far, false}, {of(1, 5, 0, far), far - 1, true}, {of(1, 5, 0, far), far, false},
		{of(1, 5, 0, far), math.MinInt, false}, {of(1, 5, 0, far), -1, false}, {of(1, 5, 0, far), math.MaxInt, false}, {of(1, 5, far, far), math.MinInt, false}, {of(1, 5, far, far), math.MaxInt, false}, {of(1, 5, 0, far), 1 << 32, false}, {of(1, 5, 0, far), -1 << 32, false},
		{of(0, 5, 0, 3), 0, false}, {of(0, 5, 0, 3), 1, false}, {of(0, 0, 0, far), 5, false}, {api.Inject{}, 0, false},
		{of(2, 0, 4, 2), 4, true}, {of(2, 0, 4, 2), 6, false}, {of(3, 0, 4, 2), 5, true}, {of(3, 0, 4, 2), 3, false}, {of(4, 0, 4, 2), 5, true}, {of(4, 0, 4, 2), 6, false},
		{of(5, 9, 4, 2), 4, true}, {of(5, 9, 4, 2), 5, true}, {of(5, 9, 4, 2), 6, false}, {of(5, 0, 4, 2), 5, true},
	} {
		if got := On(c.j, c.frame); got != c.want {
			t.Errorf("On(%v, %d) = %v", c.j, c.frame, got)
		}
	}
}

// P7.1: of each Kind, around both ends of its time, against what the promise says.
func TestOnFrames(t *testing.T) {
	for kind := -1; kind <= 7; kind++ {
		for _, from := range []int{-1, 0, 1, 6, far - 1, far, far + 1} {
			for _, long := range []int{-1, 0, 1, 2, 9, far - 1, far, far + 1} {
				j := of(kind, 3, from, long)
				for _, near := range []int{0, from, from + long} {
					for frame := near - 3; frame <= near+3; frame++ {
						if got := On(j, frame); got != there(j, frame) {
							t.Fatalf("On(%v, %d) = %v", j, frame, got)
						}
					}
				}
			}
		}
	}
}

// P7.1: a fault that may not be is never on.
func TestBadIsNeverOn(t *testing.T) {
	for _, j := range bad() {
		for _, frame := range append(numbers(), j.From-1, j.From, j.From+1, j.From+j.Long-1, j.From+j.Long, far, far+1, 2*far) {
			if On(j, frame) {
				t.Errorf("On(%v, %d)", j, frame)
			}
		}
	}
}

// P7.2: the chapter's examples.
func TestExamples(t *testing.T) {
	five := []api.Inject{of(api.JBias, 5, 0, 3)}
	if got := Apply(five, 2, 7, 100); got != 105 {
		t.Errorf("a bias: %d", got)
	}
	if got := Apply(five, 3, 7, 100); got != 100 {
		t.Errorf("behind a bias: %d", got)
	}
	if got := Apply([]api.Inject{of(api.JFreeze, 0, 0, 1)}, 0, 7, 100); got != 7 {
		t.Errorf("a freeze: %d", got)
	}
}

// P7.2: without faults a count is clamped, whatever was last, in whatever frame.
func TestNoFaults(t *testing.T) {
	for _, count := range numbers() {
		for _, last := range numbers() {
			for _, frame := range numbers() {
				none, empty := Apply(nil, frame, last, count), Apply([]api.Inject{}, frame, last, count)
				if none != clamped(count) || empty != none {
					t.Fatalf("of %d, last %d, frame %d: %d, %d", count, last, frame, none, empty)
				}
			}
		}
	}
}

// P7.2: each Kind alone, at its first frame, its second and its last one, and one ahead and behind, by hand.
func TestKinds(t *testing.T) {
	for _, c := range []struct {
		j    api.Inject
		want [5]int // at the frames 9, 10, 11, 14, 15: of the last 7, the count 100
	}{
		{of(api.JNone, 5, 10, 5), [5]int{100, 100, 100, 100, 100}},
		{of(api.JBias, 5, 10, 5), [5]int{100, 105, 105, 105, 100}},
		{of(api.JBias, -5, 10, 5), [5]int{100, 95, 95, 95, 100}},
		{of(api.JBias, 0, 10, 5), [5]int{100, 100, 100, 100, 100}},
		{of(api.JFreeze, 5, 10, 5), [5]int{100, 7, 7, 7, 100}},
		{of(api.JOpen, 5, 10, 5), [5]int{100, end, end, end, 100}},
		{of(api.JOpen, -5, 10, 5), [5]int{100, end, end, end, 100}},
		{of(api.JShort, 5, 10, 5), [5]int{100, 0, 0, 0, 100}},
		{of(api.JSpike, 5, 10, 5), [5]int{100, 105, 100, 105, 100}},
		{of(api.JSpike, -5, 10, 5), [5]int{100, 95, 100, 95, 100}},
		{of(api.JDrift, 5, 10, 5), [5]int{100, 105, 110, 125, 100}},
		{of(api.JDrift, -5, 10, 5), [5]int{100, 95, 90, 75, 100}},
		{of(api.JDrift, 0, 10, 5), [5]int{100, 100, 100, 100, 100}},
		{of(7, 5, 10, 5), [5]int{100, 100, 100, 100, 100}},
		{of(-1, 5, 10, 5), [5]int{100, 100, 100, 100, 100}},
	} {
		for i, frame := range []int{9, 10, 11, 14, 15} {
			if got := Apply([]api.Inject{c.j}, frame, 7, 100); got != c.want[i] {
				t.Errorf("Apply(%v; %d, 7, 100) = %d, not %d", c.j, frame, got, c.want[i])
			}
		}
	}
}

// P7.2: what a spike does hangs on how far behind From a frame is, not on the frame: From even and odd.
func TestSpike(t *testing.T) {
	for _, from := range []int{0, 1, 2, 3, 10, 11, far - 1, far} {
		for since := range 8 {
			want := 100
			if since == 0 || since == 2 || since == 4 || since == 6 {
				want = 91
			}
			if got := Apply([]api.Inject{of(api.JSpike, -9, from, 8)}, from+since, 7, 100); got != want {
				t.Errorf("a spike from %d on, %d behind: %d, not %d", from, since, got, want)
			}
		}
	}
	longest := []api.Inject{of(api.JSpike, 9, far, far)}
	if even, odd := Apply(longest, 2*far-2, 7, 100), Apply(longest, 2*far-1, 7, 100); even != 109 || odd != 100 {
		t.Errorf("at the end of the longest spike: %d, %d", even, odd)
	}
}

// P7.2: a bias, a spike and a drift just at 0 and MaxCount, and beyond; what has no count on its way is clamped.
func TestEnds(t *testing.T) {
	for _, c := range []struct {
		j                        api.Inject
		frame, last, count, want int
	}{
		{of(api.JBias, -99, 0, 9), 0, 7, 100, 1}, {of(api.JBias, -100, 0, 9), 0, 7, 100, 0}, {of(api.JBias, -101, 0, 9), 0, 7, 100, 0}, {of(api.JBias, -end, 0, 9), 0, 7, end, 0}, {of(api.JBias, -end, 0, 9), 0, 7, 0, 0},
		{of(api.JBias, 99, 0, 9), 0, 7, end - 100, end - 1}, {of(api.JBias, 100, 0, 9), 0, 7, end - 100, end}, {of(api.JBias, 101, 0, 9), 0, 7, end - 100, end}, {of(api.JBias, end, 0, 9), 0, 7, 0, end}, {of(api.JBias, end, 0, 9), 0, 7, end, end},
		{of(api.JBias, 5, 0, 9), 0, 7, -3, 5}, {of(api.JBias, -5, 0, 9), 0, 7, end + 3, end - 5}, {of(api.JBias, 5, 0, 9), 0, 7, math.MinInt, 5}, {of(api.JBias, -5, 0, 9), 0, 7, math.MaxInt, end - 5},
		{of(api.JSpike, -99, 0, 9), 2, 7, 100, 1}, {of(api.JSpike, -100, 0, 9), 2, 7, 100, 0}, {of(api.JSpike, -101, 0, 9), 2, 7, 100, 0}, {of(api.JSpike, -end, 0, 9), 2, 7, end, 0},
		{of(api.JSpike, 99, 0, 9), 2, 7, end - 100, end - 1}, {of(api.JSpike, 100, 0, 9), 2, 7, end - 100, end}, {of(api.JSpike, 101, 0, 9), 2, 7, end - 100, end}, {of(api.JSpike, end, 0, 9), 2, 7, end, end},
		{of(api.JSpike, 5, 0, 9), 2, 7, -3, 5}, {of(api.JSpike, -5, 0, 9), 2, 7, end + 3, end - 5}, {of(api.JSpike, 5, 0, 9), 3, 7, -3, 0}, {of(api.JSpike, -5, 0, 9), 3, 7, end + 3, end},
		{of(api.JDrift, -33, 0, 9), 2, 7, 100, 1}, {of(api.JDrift, -50, 0, 9), 1, 7, 100, 0}, {of(api.JDrift, -34, 0, 9), 2, 7, 100, 0}, {of(api.JDrift, -1, 0, far), end - 1, 7, end, 0}, {of(api.JDrift, -1, 0, far), end - 2, 7, end, 1}, {of(api.JDrift, -1, 0, far), end, 7, end, 0},
		{of(api.JDrift, 33, 0, 9), 2, 7, end - 100, end - 1}, {of(api.JDrift, 50, 0, 9), 1, 7, end - 100, end}, {of(api.JDrift, 34, 0, 9), 2, 7, end - 100, end}, {of(api.JDrift, 1, 0, far), end - 1, 7, 0, end}, {of(api.JDrift, 1, 0, far), end - 2, 7, 0, end - 1}, {of(api.JDrift, 1, 0, far), end, 7, 0, end},
		{of(api.JDrift, 5, 0, 9), 2, 7, -3, 15}, {of(api.JDrift, -5, 0, 9), 2, 7, end + 3, end - 15},
		{of(api.JFreeze, 5, 0, 9), 2, -1, 100, 0}, {of(api.JFreeze, 5, 0, 9), 2, 0, 100, 0}, {of(api.JFreeze, 5, 0, 9), 2, end, 100, end}, {of(api.JFreeze, 5, 0, 9), 2, end + 1, 100, end}, {of(api.JFreeze, 5, 0, 9), 2, math.MinInt, 100, 0}, {of(api.JFreeze, 5, 0, 9), 2, math.MaxInt, 100, end},
	} {
		if got := Apply([]api.Inject{c.j}, c.frame, c.last, c.count); got != c.want {
			t.Errorf("Apply(%v; %d, %d, %d) = %d, not %d", c.j, c.frame, c.last, c.count, got, c.want)
		}
	}
}

// P7.2: the greatest drift, and products around those that 16, 31, 32 and 46 bits hold, upward and downward.
func TestDriftFar(t *testing.T) {
	for _, since := range []int{0, 1, end - 1, end, end + 1, 1<<15 - 1, 1 << 15, 1<<16 - 1, 1 << 16, 1<<17 - 1, 1 << 17, far/2 - 1, far / 2, far - 2, far - 1} {
		for _, size := range []int{1, 2, 1 << 14, 1 << 15, end - 1, end} {
			for _, from := range []int{0, 1, far} {
				up, down := []api.Inject{of(api.JDrift, size, from, far)}, []api.Inject{of(api.JDrift, -size, from, far)}
				so := min(size*(since+1), end)
				if got := Apply(up, from+since, 7, 0); got != so {
					t.Errorf("%d more, %d behind %d: %d, not %d", size, since, from, got, so)
				}
				if got := Apply(down, from+since, 7, end); got != end-so {
					t.Errorf("%d less, %d behind %d: %d, not %d", size, since, from, got, end-so)
				}
			}
		}
	}
	longest := of(api.JDrift, 1, far, far)
	if got := Apply([]api.Inject{longest}, 2*far, 7, 100); got != 100 {
		t.Errorf("behind the longest drift: %d", got)
	}
}

// P7.2: several faults, in order, each clamped, by hand.
func TestOrder(t *testing.T) {
	up, down := of(api.JBias, 50, 0, 9), of(api.JBias, -60, 0, 9)
	most, least := of(api.JBias, end, 0, 9), of(api.JBias, -end, 0, 9)
	still, cut, low := of(api.JFreeze, 0, 0, 9), of(api.JOpen, 0, 0, 9), of(api.JShort, 0, 0, 9)
	jump, slide := of(api.JSpike, 20, 0, 9), of(api.JDrift, -30, 0, 9)
	no, none, later := of(7, 50, 0, 9), of(api.JNone, 50, 0, 9), of(api.JShort, 0, 3, 9)
	over, early := of(api.JShort, end+1, 0, 9), of(api.JOpen, 0, 0, 2)
	for i, c := range []struct {
		l    []api.Inject
		want int // in the frame 2, of the last 7, the count 100
	}{
		{[]api.Inject{up, down}, 90}, {[]api.Inject{down, up}, 90}, {[]api.Inject{up, up, up}, 250}, {[]api.Inject{down, down}, 0},
		{[]api.Inject{most, down}, end - 60}, {[]api.Inject{down, most}, end}, {[]api.Inject{least, up}, 50}, {[]api.Inject{up, least}, 0}, {[]api.Inject{most, least}, 0}, {[]api.Inject{least, most}, end}, {[]api.Inject{down, down, up}, 50}, {[]api.Inject{most, down, most, down}, end - 60},
		{[]api.Inject{still, up}, 57}, {[]api.Inject{up, still}, 7}, {[]api.Inject{still, down}, 0}, {[]api.Inject{still, down, up}, 50},
		{[]api.Inject{cut, up}, end}, {[]api.Inject{cut, down}, end - 60}, {[]api.Inject{up, cut}, end}, {[]api.Inject{down, cut}, end},
		{[]api.Inject{low, up}, 50}, {[]api.Inject{low, down}, 0}, {[]api.Inject{up, low}, 0},
		{[]api.Inject{still, cut, low}, 0}, {[]api.Inject{low, cut, still}, 7}, {[]api.Inject{cut, low, up}, 50}, {[]api.Inject{low, still, cut, down}, end - 60}, {[]api.Inject{still, still}, 7},
		{[]api.Inject{jump, slide}, 30}, {[]api.Inject{slide, jump}, 30}, {[]api.Inject{slide, slide, jump}, 20}, {[]api.Inject{slide, jump, slide}, 0}, {[]api.Inject{cut, slide}, end - 90}, {[]api.Inject{low, jump}, 20}, {[]api.Inject{jump, low}, 0}, {[]api.Inject{slide, slide, up}, 50},
		{[]api.Inject{no, up}, 150}, {[]api.Inject{up, no}, 150}, {[]api.Inject{none, up, none}, 150}, {[]api.Inject{later, up}, 150}, {[]api.Inject{up, later}, 150}, {[]api.Inject{early, up}, 150}, {[]api.Inject{up, early, down}, 90}, {[]api.Inject{over, up, over}, 150}, {[]api.Inject{no, none, later, over, early}, 100}, {[]api.Inject{no, still, later, up, none}, 57},
	} {
		if got := Apply(c.l, 2, 7, 100); got != c.want {
			t.Errorf("%d: Apply(%v; 2, 7, 100) = %d, not %d", i, c.l, got, c.want)
		}
	}
}

// P7.2: each Kind alone, of counts and lasts that are none too, against what the promise says.
func TestApplyOne(t *testing.T) {
	for kind := -1; kind <= 7; kind++ {
		for _, size := range []int{-end - 1, -end, -100, -1, 0, 1, 100, end, end + 1} {
			for _, from := range []int{0, 1, far} {
				l := []api.Inject{of(kind, size, from, 4)}
				for _, frame := range []int{math.MinInt, from - 1, from, from + 1, from + 2, from + 3, from + 4, math.MaxInt} {
					for _, last := range numbers() {
						for _, count := range numbers() {
							if got, want := Apply(l, frame, last, count), applied(l, frame, last, count); got != want {
								t.Fatalf("Apply(%v; %d, %d, %d) = %d, not %d", l, frame, last, count, got, want)
							}
						}
					}
				}
			}
		}
	}
}

// scattered is a list of faults that a short rule scatters, some of which may not be.
func scattered(k int) []api.Inject {
	var l []api.Inject
	for i := range k % 9 {
		n := k*31 + i*977 + k*i*13
		j := of(n%8, (n*7919)%(2*end)-end, n%13, n%17)
		if n%5 == 0 {
			j.Size /= 1000
		}
		l = append(l, j)
	}
	return l
}

// P7.2, P7.3: lists of faults, at all their frames, against what the promise says; the answer is a count.
func TestApplyLists(t *testing.T) {
	for k := range 2000 {
		l := scattered(k)
		for frame := -1; frame < 31; frame++ {
			last, count := (k*k+frame*501)%(end+2000)-1000, (k*7919+frame*31)%(end+2000)-1000
			got, want := Apply(l, frame, last, count), applied(l, frame, last, count)
			if got != want || got < 0 || got > end {
				t.Fatalf("Apply(%v; %d, %d, %d) = %d, not %d", l, frame, last, count, got, want)
			}
		}
	}
}

// P7.3: what is not on changes nothing: a list does what its faults do that are on; without one of those a count stays as it is.
func TestNotOnChangesNothing(t *testing.T) {
	for k := range 500 {
		l := scattered(k)
		for frame := range 31 {
			on := slices.DeleteFunc(slices.Clone(l), func(j api.Inject) bool { return !On(j, frame) })
			off := slices.DeleteFunc(slices.Clone(l), func(j api.Inject) bool { return On(j, frame) })
			if all, some := Apply(l, frame, 7, 100), Apply(on, frame, 7, 100); all != some {
				t.Fatalf("Apply(%v; %d, 7, 100) = %d, and %d of those that are on", l, frame, all, some)
			}
			if got := Apply(off, frame, 7, 100); got != 100 {
				t.Fatalf("Apply(%v; %d, 7, 100) = %d, and none is on", off, frame, got)
			}
		}
	}
	for _, frame := range numbers() {
		if got := Apply(bad(), frame, 7, 100); got != 100 {
			t.Errorf("faults that may not be, in the frame %d: %d", frame, got)
		}
	}
}

// P7.2 (and R4, R5): the faults handed in are as they were behind the call, their spare room too, and what is answered does not hang on it or on calls ahead.
func TestFaultsStay(t *testing.T) {
	for k := range 200 {
		all := append(scattered(k), of(3, 0, 0, far), of(99, 99, 99, 99))
		l, was := all[:len(all)-2], slices.Clone(all)
		for frame := range 31 {
			first := Apply(l, frame, 7, 100)
			if again, clipped := Apply(l, frame, 7, 100), Apply(slices.Clip(slices.Clone(l)), frame, 7, 100); again != first || clipped != first {
				t.Fatalf("Apply(%v; %d, 7, 100): %d, %d, %d", l, frame, first, again, clipped)
			}
			if !slices.Equal(all, was) {
				t.Fatalf("Apply(%v; %d, 7, 100) changed it", was, frame)
			}
		}
	}
}

// R4: the faults that are on may be left early, and gone through again.
func TestOnMayBeLeft(t *testing.T) {
	l := []api.Inject{of(7, 1, 0, 9), of(1, 2, 0, 9), of(0, 3, 0, 9), of(1, 4, 0, 9)}
	there := on(l, 5)
	for range 2 {
		for j := range there {
			if j != l[1] {
				t.Errorf("the first that is on: %v", j)
			}
			break
		}
		if got := slices.Collect(there); !slices.Equal(got, []api.Inject{l[1], l[3]}) {
			t.Errorf("those that are on: %v", got)
		}
	}
}
