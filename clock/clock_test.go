package clock

import (
	"math"
	"math/rand"
	"testing"

	"strongbox/api"
)

// The edges, and one past each, written out, so that a limit that moves is found.
var (
	goodBoots  = []int{1, 2, 3, 255, 256, 257, 16384, 32766, 32767}
	badBoots   = []int{0, -1, -2, -32767, -32768, 32768, 32769, 65535, 65536, 65537, math.MaxInt32, math.MinInt32, math.MaxInt - 1, math.MaxInt, math.MinInt, math.MinInt + 1}
	goodCounts = []int{1, 2, 3, 255, 256, 32767, 32768, 65534, 65535}
	badCounts  = []int{0, -1, -2, -65535, -65536, 65536, 65537, 131071, math.MaxInt32, math.MinInt32, math.MaxInt - 1, math.MaxInt, math.MinInt, math.MinInt + 1}
)

// made is a clock that there must be.
func made(t *testing.T, boot int) *Clock {
	t.Helper()
	c, e := New(boot)
	if c == nil || e != api.OK {
		t.Fatalf("New(%d): nil is %v, %d", boot, c == nil, e)
	}
	return c
}

func wantNext(t *testing.T, c *Clock, tag int) {
	t.Helper()
	if got, ok := c.Next(); got != tag || !ok {
		t.Fatalf("Next of boot %d = %d, %v; want %d", c.Boot(), got, ok, tag)
	}
}

func wantNoNext(t *testing.T, c *Clock) {
	t.Helper()
	if got, ok := c.Next(); got != 0 || ok {
		t.Fatalf("Next of boot %d = %d, %v; want none", c.Boot(), got, ok)
	}
}

func wantLast(t *testing.T, c *Clock, tag int) {
	t.Helper()
	if got := c.Last(); got != tag {
		t.Fatalf("Last of boot %d = %d; want %d", c.Boot(), got, tag)
	}
}

func wantBoot(t *testing.T, c *Clock, boot int) {
	t.Helper()
	if got := c.Boot(); got != boot {
		t.Fatalf("Boot = %d; want %d", got, boot)
	}
}

func wantJoin(t *testing.T, boot, count, tag int) {
	t.Helper()
	if got, ok := Join(boot, count); got != tag || !ok {
		t.Fatalf("Join(%d, %d) = %d, %v; want %d", boot, count, got, ok, tag)
	}
}

func wantNoJoin(t *testing.T, boot, count int) {
	t.Helper()
	if got, ok := Join(boot, count); got != 0 || ok {
		t.Errorf("Join(%d, %d) = %d, %v; want none", boot, count, got, ok)
	}
}

func wantParts(t *testing.T, tag, boot, count int) {
	t.Helper()
	if b, n := Parts(tag); b != boot || n != count {
		t.Fatalf("Parts(%d) = %d, %d; want %d, %d", tag, b, n, boot, count)
	}
}

// wantPair asks that a boot and a count make just that tag, and it them.
func wantPair(t *testing.T, boot, count int) {
	t.Helper()
	wantJoin(t, boot, count, 65536*boot+count)
	wantParts(t, 65536*boot+count, boot, count)
}

// The chapter's example.
func TestExample(t *testing.T) {
	c := made(t, 1)
	wantNext(t, c, 65537)
	wantNext(t, c, 65538)
}

// P9.1, New: boots at the limits, and past each.
func TestNew(t *testing.T) {
	for _, boot := range goodBoots {
		c := made(t, boot)
		wantBoot(t, c, boot)
		wantLast(t, c, 0)
		wantNext(t, c, 65536*boot+1)
		wantBoot(t, c, boot)
	}
	for _, boot := range badBoots {
		if c, e := New(boot); c != nil || e != api.ErrArg {
			t.Errorf("New(%d): nil is %v, %d", boot, c == nil, e)
		}
	}
}

// P9.1, New: every boot near the limits and between them.
func TestNewOfAll(t *testing.T) {
	for boot := -40000; boot <= 70000; boot++ {
		c, e := New(boot)
		if 1 <= boot && boot <= 32767 {
			if e != api.OK || c.Boot() != boot {
				t.Fatalf("New(%d): boot %d, %d", boot, c.Boot(), e)
			}
			wantNext(t, c, 65536*boot+1)
		} else if c != nil || e != api.ErrArg {
			t.Fatalf("New(%d): nil is %v, %d", boot, c == nil, e)
		}
	}
}

// P9.1, Next and Last: each of the 65535 tags, then none any more, however often it is asked; Last stays what was given.
func TestNextToTheEnd(t *testing.T) {
	for _, boot := range goodBoots {
		c := made(t, boot)
		wantLast(t, c, 0)
		for count := 1; count <= 65535; count++ {
			wantNext(t, c, 65536*boot+count)
			wantLast(t, c, 65536*boot+count)
		}
		for range 2*65536 + 3 {
			wantNoNext(t, c)
			wantLast(t, c, 65536*boot+65535)
		}
		wantBoot(t, c, boot)
	}
}

// P9.1, Last: it may be asked often, or not at all, and Next does not heed it.
func TestLastGivesNothing(t *testing.T) {
	c := made(t, 7)
	for range 5 {
		wantLast(t, c, 0)
	}
	wantNext(t, c, 7*65536+1)
	for range 5 {
		wantLast(t, c, 7*65536+1)
		wantBoot(t, c, 7)
	}
	wantNext(t, c, 7*65536+2)
	wantNext(t, c, 7*65536+3)
	wantNext(t, c, 7*65536+4)
	wantLast(t, c, 7*65536+4)
}

// P9.1, Join and Parts: the limits, and past each, with each other.
func TestJoinLimits(t *testing.T) {
	for _, boot := range goodBoots {
		for _, count := range goodCounts {
			wantPair(t, boot, count)
		}
		for _, count := range badCounts {
			wantNoJoin(t, boot, count)
		}
	}
	for _, boot := range badBoots {
		for _, count := range append(goodCounts[:len(goodCounts):len(goodCounts)], badCounts...) {
			wantNoJoin(t, boot, count)
		}
	}
}

// P9.1, Join and Parts: every count of some boots, every boot with some counts.
func TestJoinOfAll(t *testing.T) {
	for _, boot := range goodBoots {
		for count := 1; count <= 65535; count++ {
			wantPair(t, boot, count)
		}
	}
	for _, count := range goodCounts {
		for boot := 1; boot <= 32767; boot++ {
			wantPair(t, boot, count)
		}
	}
}

// P9.1, Join: where the wrap-round of a product or a sum would make what looks like a tag, there is none.
func TestJoinWraps(t *testing.T) {
	for shift := 15; shift < 63; shift++ {
		for _, boot := range []int{1<<shift + 1, -1<<shift + 1, -1 << shift, 1 << shift} {
			wantNoJoin(t, boot, 1)
			wantNoJoin(t, boot, 65535)
		}
		wantNoJoin(t, 1, 1<<(shift+1)+1)
		wantNoJoin(t, 1, -1<<(shift+1)+1)
	}
	wantNoJoin(t, 2, -65535)  // 65537
	wantNoJoin(t, 0, 65537)   // 65537
	wantNoJoin(t, -1, 131073) // 65537
}

// P9.1, Parts: the least tag and the greatest one, what is one below and one above, and what is far off.
func TestPartsLimits(t *testing.T) {
	wantParts(t, 65537, 1, 1)
	wantParts(t, 65538, 1, 2)
	wantParts(t, math.MaxInt32, 32767, 65535)
	wantParts(t, math.MaxInt32-1, 32767, 65534)
	for _, tag := range []int{
		0, 1, 2, 65534, 65535, 65536, -1, -2, -65535, -65536, -65537, -65538, -131073,
		math.MaxInt32 + 1, math.MaxInt32 + 2, math.MaxInt32 + 3, math.MaxUint32, math.MaxUint32 + 1,
		math.MinInt32, math.MinInt32 + 1, math.MinInt32 - 1,
		1<<32 + 65537, 1<<48 + 65537, 1<<62 + 65537, -1<<32 + 65537, math.MinInt + 65537,
		math.MaxInt, math.MaxInt - 1, math.MinInt, math.MinInt + 1,
	} {
		wantParts(t, tag, 0, 0)
	}
}

// P9.1, Parts: where the count would be 0 there is no tag, nor below 0; those beside it are of two boots.
func TestPartsBetweenBoots(t *testing.T) {
	for boot := 1; boot <= 32768; boot++ {
		wantParts(t, 65536*boot, 0, 0)
		wantParts(t, -65536*boot, 0, 0)
		wantParts(t, -65536*boot-1, 0, 0)
		if boot > 1 {
			wantParts(t, 65536*boot-1, boot-1, 65535)
		}
		if boot < 32768 {
			wantParts(t, 65536*boot+1, boot, 1)
		}
	}
}

// P9.1, Parts: drawn numbers are tags just where Join says so.
func TestDrawnParts(t *testing.T) {
	draw := rand.New(rand.NewSource(9))
	for range 500000 {
		tag := int(draw.Uint64()) >> draw.Intn(64)
		boot, count := Parts(tag)
		back, ok := Join(boot, count)
		there := 65537 <= tag && tag <= math.MaxInt32 && tag&65535 != 0
		if ok != there || there && back != tag || !there && (boot != 0 || count != 0) {
			t.Fatalf("Parts(%d) = %d, %d, of which Join makes %d, %v", tag, boot, count, back, ok)
		}
	}
}

// P9.1: what Next gives is what Join makes, and Parts tells its boot and how often it was asked.
func TestNextIsJoined(t *testing.T) {
	for _, boot := range goodBoots {
		c := made(t, boot)
		for count := 1; count <= 300; count++ {
			tag, _ := c.Next()
			wantJoin(t, boot, count, tag)
			wantParts(t, tag, boot, count)
		}
	}
}

// The chapter's name: within a boot and from each boot to a later one tags rise, however few a boot gives.
func TestTagsRise(t *testing.T) {
	before := 0
	for boot := 1; boot <= 32767; boot++ {
		c := made(t, boot)
		for range boot % 4 {
			tag, ok := c.Next()
			if !ok || tag <= before {
				t.Fatalf("boot %d: %d, %v behind %d", boot, tag, ok, before)
			}
			before = tag
		}
	}
	end := made(t, 4)
	for range 65535 {
		end.Next()
	}
	next, _ := made(t, 5).Next()
	if end.Last() >= next || next-end.Last() != 2 {
		t.Errorf("%d behind %d", next, end.Last())
	}
}

// R5: two clocks of one boot, and of two boots, asked by turns, know nothing of one another; nor does a clock heed Join and Parts.
func TestClocksShareNothing(t *testing.T) {
	for _, boots := range [][2]int{{1, 1}, {1, 2}, {32767, 1}, {32766, 32767}, {32767, 32767}} {
		a, b := made(t, boots[0]), made(t, boots[1])
		if a == b {
			t.Fatalf("two clocks of boots %v are one", boots)
		}
		x, y := 65536*boots[0], 65536*boots[1]
		wantNext(t, a, x+1)
		wantLast(t, b, 0)
		wantNext(t, a, x+2)
		wantNext(t, b, y+1)
		wantLast(t, a, x+2)
		Join(boots[0], 900)
		Parts(x + 901)
		wantNext(t, a, x+3)
		wantLast(t, b, y+1)
		New(boots[0])
		New(0)
		wantLast(t, a, x+3)
		for range 70000 {
			a.Next()
		}
		wantNoNext(t, a)
		wantNext(t, b, y+2)
		wantBoot(t, a, boots[0])
		wantBoot(t, b, boots[1])
		late := made(t, boots[0])
		wantLast(t, late, 0)
		wantNext(t, late, x+1)
		wantLast(t, a, x+65535)
	}
}

// R5: clocks that are asked by turns, as drawn.
func TestDrawnTurns(t *testing.T) {
	draw := rand.New(rand.NewSource(10))
	for range 200 {
		var clocks []*Clock
		counts := make([]int, 6)
		for i := range counts {
			clocks = append(clocks, made(t, 1+i/2))
		}
		for range 500 {
			i := draw.Intn(len(clocks))
			counts[i]++
			wantNext(t, clocks[i], 65536*(1+i/2)+counts[i])
		}
		for i, c := range clocks {
			want := 65536*(1+i/2) + counts[i]
			if counts[i] == 0 {
				want = 0
			}
			wantLast(t, c, want)
		}
	}
}

// R7: a nil clock, and one that New did not make, give nothing, and may be asked often.
func TestNoClock(t *testing.T) {
	var none *Clock
	for _, c := range []*Clock{none, {}} {
		for range 3 {
			wantNoNext(t, c)
			wantLast(t, c, 0)
			wantBoot(t, c, 0)
		}
	}
	refused, _ := New(0)
	wantNoNext(t, refused)
}
