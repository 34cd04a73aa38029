package array_test

import (
	"bytes"
	"fmt"
	"math"
	"math/bits"
	"math/rand"
	"slices"
	"strings"
	"testing"

	"strongbox/api"
	"strongbox/array"
	"strongbox/disk"
	"strongbox/rs"
	"strongbox/watch"
)

// The limits, written out, so that one that moves is found.
const (
	minBlock  = 16
	maxBlock  = 4096
	maxShards = 255
	maxFile   = 262144
	maxPath   = 600
)

// saveOps are the operations of a Save, in order.
var saveOps = []string{"Write", "Sync", "Rename"}

// saving is how a log tells the first so many operations of a Save.
func saving(number int, path string, length, ops int) []string {
	return watch.Saving(number, path, length)[:ops]
}

func shape(k, m int) api.Shape { return api.Shape{K: k, M: m, Block: minBlock} }

// sims is n disks of 1000 bytes that share a fuse, also as what New takes.
func sims(n int, f *disk.Fuse) ([]*disk.Sim, []disk.Disk) {
	var own []*disk.Sim
	var disks []disk.Disk
	for range n {
		s := disk.New(1000, f)
		own, disks = append(own, s), append(disks, s)
	}
	return own, disks
}

// watched is an array of disks of 1000 bytes that tell what they are asked, and the log that they share.
func watched(t *testing.T, s api.Shape) (*array.Array, []*watch.Disk, *[]string) {
	t.Helper()
	own, log := watch.Disks(s.K+s.M, 1000, nil)
	var disks []disk.Disk
	for _, w := range own {
		disks = append(disks, w)
	}
	return made(t, s, disks), own, log
}

// made is New where it must not refuse.
func made(t *testing.T, s api.Shape, disks []disk.Disk) *array.Array {
	t.Helper()
	a, e := array.New(s, disks)
	if a == nil || e != api.OK {
		t.Fatalf("New(%v, %d disks): %v, %d", s, len(disks), a != nil, e)
	}
	return a
}

func wantRefused(t *testing.T, s api.Shape, disks []disk.Disk) {
	t.Helper()
	if a, e := array.New(s, disks); a != nil || e != api.ErrArg {
		t.Fatalf("New(%v, %d disks): %v, %d; want ErrArg", s, len(disks), a != nil, e)
	}
}

func want(t *testing.T, what string, got, e api.Errno) {
	t.Helper()
	if got != e {
		t.Fatalf("%s: %d, want %d", what, got, e)
	}
}

func wantVoice(t *testing.T, what string, a *array.Array, i int, voice bool, e api.Errno) {
	t.Helper()
	if ok, got := a.Voice(i); ok != voice || got != e {
		t.Fatalf("%s: Voice(%d) = %v, %d; want %v, %d", what, i, ok, got, voice, e)
	}
}

func wantVoices(t *testing.T, what string, a *array.Array, voices ...int) {
	t.Helper()
	if got := a.Voices(); !slices.Equal(got, voices) {
		t.Fatalf("%s: Voices = %v, want %v", what, got, voices)
	}
}

// wantLog asks that just these operations were done since, and begins the log anew.
func wantLog(t *testing.T, what string, log *[]string, ops ...string) {
	t.Helper()
	if !slices.Equal(*log, ops) {
		t.Fatalf("%s: did %q, want %q", what, *log, ops)
	}
	*log = nil
}

func states(own []*watch.Disk) string {
	var b strings.Builder
	for _, w := range own {
		b.WriteString(watch.State(w.Sim) + "| ")
	}
	return b.String()
}

func wantState(t *testing.T, what string, s *disk.Sim, wanted string) {
	t.Helper()
	if got := watch.State(s); got != wanted {
		t.Fatalf("%s: the disk has %s; want %s", what, got, wanted)
	}
}

// put makes a file behind the array's back, synced.
func put(t *testing.T, s *disk.Sim, path string, b []byte) {
	t.Helper()
	want(t, "Write", s.Write(path, b), api.OK)
	want(t, "Sync", s.Sync(path), api.OK)
}

// summed is b with its CRC-32C behind it, bit by bit by the words of chapter 4.
func summed(b []byte) []byte {
	left := ^uint32(0)
	for _, x := range b {
		left ^= uint32(x)
		for range 8 {
			low := left & 1
			left >>= 1
			if low == 1 {
				left ^= bits.Reverse32(0x1EDC6F41)
			}
		}
	}
	s := ^left
	return append(slices.Clone(b), byte(s), byte(s>>8), byte(s>>16), byte(s>>24))
}

// formatOf is the file that gives disk i a voice, by the words of P12.2.
func formatOf(k, m, i int) []byte {
	return summed([]byte{'S', 'B', 'F', '1', byte(k), byte(m), byte(i)})
}

// filled is n bytes.
func filled(n int) []byte {
	source := rand.New(rand.NewSource(int64(n)))
	b := make([]byte, n)
	for i := range b {
		b[i] = byte(source.Intn(256))
	}
	return b
}

// anyErrors are numbers that a disk may answer: those of api, and others.
func anyErrors() []api.Errno {
	l := []api.Errno{-1, -8, 100, math.MaxInt32, math.MaxInt, math.MinInt}
	for e := api.OK + 1; e <= api.ErrCrash+2; e++ {
		l = append(l, e)
	}
	return l
}

// P12.1: K and M of 0, below 0, 1, the greatest that a code has, and one more.
func TestNewSides(t *testing.T) {
	_, disks := sims(maxShards+1, nil)
	for _, s := range [][2]int{{1, 1}, {1, 2}, {2, 1}, {1, 254}, {254, 1}, {128, 127}, {127, 128}, {253, 2}} {
		n := s[0] + s[1]
		a := made(t, shape(s[0], s[1]), disks[:n])
		if a.N() != n || a.Shape() != shape(s[0], s[1]) {
			t.Fatalf("N = %d, Shape = %v of %v", a.N(), a.Shape(), s)
		}
	}
	for _, s := range [][2]int{{0, 0}, {0, 1}, {1, 0}, {0, 3}, {3, 0}, {-1, 1}, {1, -1}, {-1, 4}, {4, -1}, {-1, -1}, {1, 255}, {255, 1}, {128, 128}, {0, 255}, {255, 0}, {254, 2}, {2, 254}} {
		for n := range len(disks) + 1 {
			wantRefused(t, shape(s[0], s[1]), disks[:n])
		}
	}
}

// P12.1: K and M whose sum is past the greatest number there is are refused, also where what is left of the sum is the number of disks.
func TestNewWrapsNowhere(t *testing.T) {
	_, disks := sims(9, nil)
	for _, k := range []int{math.MinInt, math.MinInt + 1, math.MaxInt, math.MaxInt - 3, 1 << 32, 1<<32 + 2, 1 << 62, 256 + 2, -253} {
		for n := range len(disks) + 1 {
			wantRefused(t, shape(k, n-k), disks[:n])
			wantRefused(t, shape(n-k, k), disks[:n])
			wantRefused(t, shape(k, 1), disks[:n])
			wantRefused(t, shape(1, k), disks[:n])
			wantRefused(t, shape(k, k), disks[:n])
		}
	}
}

// P12.1: Block one below MinBlock, MinBlock, MaxBlock, one more, and any other.
func TestNewBlocks(t *testing.T) {
	_, disks := sims(3, nil)
	for _, block := range []int{minBlock, minBlock + 1, 17, 100, 1000, maxBlock - 1, maxBlock} {
		s := api.Shape{K: 2, M: 1, Block: block}
		if a := made(t, s, disks); a.Shape() != s {
			t.Fatalf("Shape = %v, want %v", a.Shape(), s)
		}
	}
	for _, block := range []int{minBlock - 1, maxBlock + 1, 0, 1, -1, -16, -4096, 65536, 1<<32 + 16, math.MaxInt, math.MinInt, math.MinInt + 16} {
		wantRefused(t, api.Shape{K: 2, M: 1, Block: block}, disks)
	}
}

// P12.1: one disk too few, one too many, none; a list of length 0 is none.
func TestNewCounts(t *testing.T) {
	_, disks := sims(12, nil)
	for k := 1; k < 6; k++ {
		for m := 1; m < 6; m++ {
			for n := range disks {
				if n != k+m {
					wantRefused(t, shape(k, m), disks[:n])
				}
			}
			made(t, shape(k, m), disks[:k+m])
			wantRefused(t, shape(k, m), nil)
			wantRefused(t, shape(k, m), []disk.Disk{})
		}
	}
}

// P12.1: one disk that is nil, first, last, and at each place between; some; all.
func TestNewNilDisks(t *testing.T) {
	for n := 2; n < 8; n++ {
		_, disks := sims(n, nil)
		for none := 1; none < 1<<n; none++ {
			some := slices.Clone(disks)
			for i := range some {
				if none>>i&1 == 1 {
					some[i] = nil
				}
			}
			for k := 1; k < n; k++ {
				wantRefused(t, shape(k, n-k), some)
			}
		}
	}
	_, disks := sims(maxShards, nil)
	disks[maxShards-1] = nil
	wantRefused(t, shape(200, 55), disks)
}

// P12.1: New asks no disk anything, whether it refuses or not, and takes disks whatever state they are in.
func TestNewAsksNoDisk(t *testing.T) {
	f := disk.NewFuse()
	own, disks := sims(3, f)
	own[0].Offline(true)
	own[1].Fail(5)
	made(t, shape(2, 1), disks)
	wantRefused(t, shape(2, 2), disks)
	wantRefused(t, shape(2, 1), append(disks[:2:2], nil))
	f.Set(1)
	own[0].Read("x")
	made(t, shape(1, 2), disks)
	if f.Ops() != 1 {
		t.Fatalf("%d operations", f.Ops())
	}
}

// P12.1: one disk may stand at several places; the last place that it was formatted as is its own.
func TestOneDiskTwice(t *testing.T) {
	own, _ := sims(1, nil)
	a := made(t, shape(1, 2), []disk.Disk{own[0], own[0], own[0]})
	for i := range 3 {
		want(t, "Format", a.Format(i), api.OK)
		wantVoices(t, "one disk", a, i)
	}
}

// P12.1: the example's shapes.
func TestQuorumExample(t *testing.T) {
	for _, x := range []struct{ k, m, quorum int }{{2, 2, 3}, {1, 3, 3}, {4, 2, 4}} {
		_, disks := sims(x.k+x.m, nil)
		if q := made(t, shape(x.k, x.m), disks).Quorum(); q != x.quorum {
			t.Fatalf("Quorum of %d, %d is %d, want %d", x.k, x.m, q, x.quorum)
		}
	}
}

// P12.1: Quorum of every small shape, and of the greatest ones: K where it is the greater, half of N and one where that is.
func TestQuorum(t *testing.T) {
	_, disks := sims(maxShards, nil)
	quorum := func(k, m int) int { return made(t, shape(k, m), disks[:k+m]).Quorum() }
	byData, byHalf, alike := 0, 0, 0
	for k := 1; k < 14; k++ {
		for m := 1; m < 14; m++ {
			q, half := k, 0
			for 2*half <= k+m { // one more than half, downwards: the first whose double is above
				half++
			}
			switch {
			case half > k:
				q, byHalf = half, byHalf+1
			case half < k:
				byData++
			default:
				alike++
			}
			if got := quorum(k, m); got != q {
				t.Fatalf("Quorum of %d, %d is %d, want %d", k, m, got, q)
			}
		}
	}
	if byData == 0 || byHalf == 0 || alike == 0 {
		t.Fatal("a case was left out")
	}
	for _, x := range []struct{ k, m, quorum int }{{1, 1, 2}, {2, 1, 2}, {1, 2, 2}, {3, 1, 3}, {3, 2, 3}, {3, 3, 4}, {4, 1, 4}, {4, 3, 4}, {4, 4, 5}, {1, 4, 3}, {1, 254, 128}, {254, 1, 254}, {127, 128, 128}, {128, 127, 128}, {129, 126, 129}} {
		if got := quorum(x.k, x.m); got != x.quorum {
			t.Fatalf("Quorum of %d, %d is %d, want %d", x.k, x.m, got, x.quorum)
		}
	}
}

// P12.1: any two sets of as many disks as Quorum says have one in common, and each is enough for the data; with one less that does not hold.
func TestQuorumSets(t *testing.T) {
	for k := 1; k < 6; k++ {
		for m := 1; k+m < 8; m++ {
			_, disks := sims(k+m, nil)
			a := made(t, shape(k, m), disks)
			if !meet(a, a.Quorum()) || !enough(t, a, a.Quorum()) {
				t.Fatalf("%d of %d and %d are too few", a.Quorum(), k, m)
			}
			if meet(a, a.Quorum()-1) && enough(t, a, a.Quorum()-1) {
				t.Fatalf("%d of %d and %d are more than are needed", a.Quorum(), k, m)
			}
		}
	}
}

// sets are all sets of n out of N, each as bits.
func sets(all, n int) []int {
	var l []int
	for set := range 1 << all {
		if bits.OnesCount(uint(set)) == n {
			l = append(l, set)
		}
	}
	return l
}

// meet tells whether any two sets of n disks have one in common.
func meet(a *array.Array, n int) bool {
	for _, x := range sets(a.N(), n) {
		for _, y := range sets(a.N(), n) {
			if x&y == 0 {
				return false
			}
		}
	}
	return true
}

// enough tells whether the shards of any n disks bring back all of them.
func enough(t *testing.T, a *array.Array, n int) bool {
	t.Helper()
	var data [][]byte
	for i := range a.Shape().K {
		data = append(data, filled(20 + i)[:20])
	}
	whole, e := a.Code().Encode(data)
	want(t, "Encode", e, api.OK)
	for _, set := range sets(a.N(), n) {
		left := make([][]byte, a.N())
		for i := range left {
			if set>>i&1 == 1 {
				left[i] = whole[i]
			}
		}
		back, e := a.Code().Rebuild(left)
		if e != api.OK || !slices.EqualFunc(back, whole, bytes.Equal) {
			return false
		}
	}
	return true
}

// Shape, N, Code and Disk are those that New was given.
func TestWhatNewMade(t *testing.T) {
	for k := 1; k < 7; k++ {
		for m := 1; m < 7; m++ {
			s := api.Shape{K: k, M: m, Block: minBlock + 10*k + m}
			_, disks := sims(k+m, nil)
			a := made(t, s, disks)
			if a.Shape() != s || a.N() != k+m || a.Code().K() != k || a.Code().N() != k+m {
				t.Fatalf("Shape %v, N %d, Code %d of %d; want %v", a.Shape(), a.N(), a.Code().K(), a.Code().N(), s)
			}
			for i := range disks {
				if d, ok := a.Disk(i); d != disks[i] || !ok {
					t.Fatalf("Disk(%d) of %v is another one", i, s)
				}
			}
			for _, i := range []int{-1, k + m, k + m + 1, -2, 255, 256, -256, 1 << 32, math.MaxInt, math.MinInt} {
				if d, ok := a.Disk(i); d != nil || ok {
					t.Fatalf("Disk(%d) of %v is there", i, s)
				}
			}
		}
	}
}

// Code is the code that rs.New makes of K and M.
func TestCode(t *testing.T) {
	for _, s := range []api.Shape{shape(1, 1), shape(2, 1), shape(3, 4), shape(10, 4)} {
		_, disks := sims(s.K+s.M, nil)
		a := made(t, s, disks)
		code, _ := rs.New(s.K, s.M)
		var data [][]byte
		for i := range s.K {
			data = append(data, filled(30 + i)[:30])
		}
		wanted, _ := code.Encode(data)
		got, e := a.Code().Encode(data)
		if e != api.OK || !slices.EqualFunc(got, wanted, bytes.Equal) {
			t.Fatalf("the code of %v is another one", s)
		}
	}
}

// A disk need not be in memory, nor know its room: it is handed out as it came in.
func TestDiskIsTheSame(t *testing.T) {
	s := disk.New(10, nil)
	mute, other := plain{s}, shy{s, 3}
	a := made(t, shape(1, 1), []disk.Disk{mute, &other})
	if d, ok := a.Disk(0); d != disk.Disk(mute) || !ok {
		t.Fatal("Disk(0) is another one")
	}
	if d, ok := a.Disk(1); d != disk.Disk(&other) || !ok {
		t.Fatal("Disk(1) is another one")
	}
}

// P12.2: Save on each disk: the file as it was given, synced, nothing left at tmp, another disk untouched, by three operations.
func TestSave(t *testing.T) {
	for _, length := range []int{0, 1, 2, 11, 500} {
		b := filled(length)
		for i := range 4 {
			a, own, log := watched(t, shape(3, 1))
			for j, w := range own {
				put(t, w.Sim, "x", []byte{byte(j)})
			}
			want(t, "Save", a.Save(i, "j/6162", b), api.OK)
			wantLog(t, "Save", log, saving(i, "j/6162", length, 3)...)
			for j, w := range own {
				wanted := watch.Synced("x", string(byte(j)))
				if j == i {
					wanted = watch.Synced("j/6162", string(b)) + wanted
				}
				wantState(t, "Save", w.Sim, wanted)
			}
		}
	}
}

// P12.2: no bytes may be nil, too.
func TestSaveOfNothing(t *testing.T) {
	for _, b := range [][]byte{nil, {}} {
		a, own, log := watched(t, shape(1, 1))
		want(t, "Save", a.Save(1, "x", b), api.OK)
		wantLog(t, "Save", log, saving(1, "x", 0, 3)...)
		wantState(t, "Save", own[1].Sim, watch.Synced("x", ""))
	}
}

// P12.2: what was there is replaced, shorter or longer, and so is what was left at tmp.
func TestSaveAgain(t *testing.T) {
	a, own, log := watched(t, shape(1, 1))
	for _, b := range []string{"elder", "younger one", "", "y", "elder"} {
		want(t, "Write of tmp", own[0].Sim.Write("tmp", []byte("left over from a crash")), api.OK)
		want(t, "Save", a.Save(0, "x", []byte(b)), api.OK)
		wantLog(t, "Save", log, saving(0, "x", len(b), 3)...)
		wantState(t, "Save", own[0].Sim, watch.Synced("x", b))
	}
	want(t, "Save of tmp", a.Save(0, "tmp", []byte("t")), api.OK)
	wantLog(t, "Save of tmp", log, saving(0, "tmp", 1, 3)...)
	wantState(t, "Save of tmp", own[0].Sim, watch.Synced("tmp", "t")+watch.Synced("x", "elder"))
}

// elder is an array of two watched disks, of which the first has a file that a Save may replace.
func elder(t *testing.T) (*array.Array, *watch.Disk, *[]string) {
	t.Helper()
	a, own, log := watched(t, shape(1, 1))
	put(t, own[0].Sim, "x", []byte("elder"))
	return a, own[0], log
}

// leftAt is what a Save of "new" that failed at that operation, not done, leaves beside the elder file.
func leftAt(failed int) string {
	return []string{"", watch.Loose("tmp", "new"), watch.Synced("tmp", "new")}[failed]
}

// P12.2: whichever operation fails, with whatever number: it is answered, nothing further is done, the elder file is whole.
func TestSaveFails(t *testing.T) {
	for failed, op := range saveOps {
		for _, e := range anyErrors() {
			a, w, log := elder(t)
			w.Before = func(now, _ string) api.Errno {
				if now == op {
					return e
				}
				return api.OK
			}
			want(t, "Save where "+op+" fails", a.Save(0, "x", []byte("new")), e)
			wantLog(t, "Save where "+op+" fails", log, saving(0, "x", 3, failed+1)...)
			wantState(t, "Save where "+op+" fails", w.Sim, leftAt(failed)+watch.Synced("x", "elder"))
			w.Before = nil
			want(t, "Save behind it", a.Save(0, "x", []byte("newer")), api.OK)
			wantState(t, "Save behind it", w.Sim, watch.Synced("x", "newer"))
		}
	}
}

// P12.2: the first error is answered, though what follows it would fail, too, and otherwise.
func TestSaveFirstError(t *testing.T) {
	for failed, op := range saveOps {
		a, w, log := elder(t)
		w.Before = func(now, _ string) api.Errno {
			at := slices.Index(saveOps, now)
			if at < failed {
				return api.OK
			}
			return api.Errno(100 + at)
		}
		want(t, "Save where all fails from "+op, a.Save(0, "x", []byte("new")), api.Errno(100+failed))
		wantLog(t, "Save where all fails from "+op, log, saving(0, "x", 3, failed+1)...)
	}
}

// P12.2: input or output, and offline, from each operation on; a crash behind it, too, leaves the elder file whole.
func TestSaveFaults(t *testing.T) {
	faults := map[api.Errno]func(s *disk.Sim, on bool){
		api.ErrIO:      func(s *disk.Sim, on bool) { s.Fail(map[bool]int{true: 1}[on]) },
		api.ErrOffline: func(s *disk.Sim, on bool) { s.Offline(on) },
	}
	for e, fault := range faults {
		for failed, op := range saveOps {
			a, w, log := elder(t)
			w.Before = func(now, _ string) api.Errno {
				if now == op {
					fault(w.Sim, true)
				}
				return api.OK
			}
			want(t, "Save", a.Save(0, "x", []byte("new")), e)
			wantLog(t, "Save", log, saving(0, "x", 3, failed+1)...)
			wantState(t, "Save", w.Sim, leftAt(failed)+watch.Synced("x", "elder"))
			w.Before = nil
			fault(w.Sim, false)
			w.Crash(failed)
			if b, ok, there := w.Look("x"); string(b) != "elder" || !ok || !there {
				t.Fatalf("behind a crash the elder file is %q, %v, %v", b, ok, there)
			}
			want(t, "Save behind it", a.Save(0, "x", []byte("new")), api.OK)
			wantState(t, "Save behind it", w.Sim, watch.Synced("x", "new"))
		}
	}
}

// P12.2: a disk without room for both the elder file and the new one; the file as long as goes in is taken.
func TestSaveFull(t *testing.T) {
	for length := range 14 {
		f := disk.NewFuse()
		s := disk.New(15, f)
		a := made(t, shape(1, 1), []disk.Disk{s, disk.New(0, nil)})
		put(t, s, "x", []byte("elder"))
		f.Set(0)
		b := string(filled(length))
		e, ops, left := api.OK, 3, watch.Synced("x", b)
		if length > 10 {
			e, ops, left = api.ErrFull, 1, watch.Synced("x", "elder")
		}
		want(t, "Save", a.Save(0, "x", []byte(b)), e)
		wantState(t, "Save", s, left)
		if f.Ops() != ops {
			t.Fatalf("%d operations, want %d", f.Ops(), ops)
		}
	}
}

// P12.2: a file of MaxFile bytes, and of one more.
func TestSaveLong(t *testing.T) {
	for _, over := range []int{-1, 0, 1, maxFile} {
		f := disk.NewFuse()
		s := disk.New(1<<20, f)
		a := made(t, shape(1, 1), []disk.Disk{disk.New(0, nil), s})
		put(t, s, "x", []byte("elder"))
		f.Set(0)
		b := filled(maxFile + over)
		e, ops, left := api.OK, 3, watch.Synced("x", string(b))
		if over > 0 {
			e, ops, left = api.ErrLong, 1, watch.Synced("x", "elder")
		}
		want(t, "Save", a.Save(1, "x", b), e)
		wantState(t, "Save", s, left)
		if f.Ops() != ops {
			t.Fatalf("%d operations, want %d", f.Ops(), ops)
		}
	}
}

// P12.2: a path is the disk's to refuse: only the Rename finds that it may not be.
func TestSavePaths(t *testing.T) {
	for _, p := range []string{"p", "tmp2", "\x00", "\xff", strings.Repeat("p", maxPath-1), strings.Repeat("p", maxPath)} {
		a, own, log := watched(t, shape(1, 1))
		want(t, "Save", a.Save(0, p, []byte("new")), api.OK)
		wantLog(t, "Save", log, saving(0, p, 3, 3)...)
		wantState(t, "Save", own[0].Sim, watch.Synced(p, "new"))
	}
	for _, p := range []string{"", strings.Repeat("p", maxPath+1), strings.Repeat("p", 9999)} {
		a, w, log := elder(t)
		want(t, "Save", a.Save(0, p, []byte("new")), api.ErrArg)
		wantLog(t, "Save", log, saving(0, p, 3, 3)...)
		wantState(t, "Save", w.Sim, watch.Synced("tmp", "new")+watch.Synced("x", "elder"))
	}
}

// P12.2: a fuse that blows behind each operation, and a crash that leaves any number of bytes of what is not synced: the elder file is whole, or the new one.
func TestSaveCrash(t *testing.T) {
	for blown := 1; blown <= 4; blown++ {
		for keep := -1; keep < 9; keep++ {
			f := disk.NewFuse()
			own, disks := sims(2, f)
			a := made(t, shape(1, 1), disks)
			put(t, own[0], "x", []byte("elder"))
			f.Set(blown)
			e, ops, left := api.ErrCrash, blown, leftAt(min(blown, 2))+watch.Synced("x", "elder")
			if blown >= 3 {
				e, ops, left = api.OK, 3, watch.Synced("x", "new")
			}
			want(t, "Save", a.Save(0, "x", []byte("new")), e)
			wantState(t, "Save", own[0], left)
			if f.Ops() != ops {
				t.Fatalf("%d operations, want %d", f.Ops(), ops)
			}
			own[0].Crash(keep)
			if blown == 1 {
				left = watch.Synced("tmp", "new"[:max(keep, 0)%4]) + watch.Synced("x", "elder")
			}
			wantState(t, "Save and a crash", own[0], left)
			f.Set(0)
			want(t, "Save behind the crash", a.Save(0, "x", []byte("newer")), api.OK)
			wantState(t, "Save behind the crash", own[0], watch.Synced("x", "newer"))
		}
	}
}

// P12.2: behind a fuse that is blown nothing is done at all.
func TestSaveBehindCrash(t *testing.T) {
	f := disk.NewFuse()
	own, disks := sims(2, f)
	a := made(t, shape(1, 1), disks)
	want(t, "Format", a.Format(0), api.OK)
	f.Set(1)
	wantVoice(t, "the last operation", a, 0, true, api.OK)
	want(t, "Save", a.Save(0, "x", []byte("new")), api.ErrCrash)
	want(t, "Format", a.Format(1), api.ErrCrash)
	wantVoice(t, "a crash", a, 0, false, api.ErrCrash)
	wantVoices(t, "a crash", a)
	wantState(t, "a crash", own[0], watch.Synced("format", string(formatOf(1, 1, 0))))
	wantState(t, "a crash", own[1], "")
}

// P12.2: Save, Format and Voice of a disk that there is not: ErrArg, and no operation.
func TestNoSuchDisk(t *testing.T) {
	for n := 2; n < 6; n++ {
		for k := 1; k < n; k++ {
			a, own, log := watched(t, shape(k, n-k))
			before := states(own)
			for _, i := range []int{-1, n, n + 1, -n, 255, 256, -256, 1 << 32, math.MaxInt, math.MinInt} {
				want(t, "Save", a.Save(i, "x", []byte("new")), api.ErrArg)
				want(t, "Save of no path", a.Save(i, "", nil), api.ErrArg)
				want(t, "Format", a.Format(i), api.ErrArg)
				wantVoice(t, "no such disk", a, i, false, api.ErrArg)
			}
			wantLog(t, "no such disk", log)
			if got := states(own); got != before {
				t.Fatalf("the disks have %s; want %s", got, before)
			}
		}
	}
}

// P12.2: the file that Format makes, byte by byte, as one number of the sum is known.
func TestFormatBytes(t *testing.T) {
	own, disks := sims(3, nil)
	a := made(t, shape(2, 1), disks)
	want(t, "Format", a.Format(1), api.OK)
	wantState(t, "Format", own[1], watch.Synced("format", "SBF1\x02\x01\x01\xf0\x54\xcb\xda"))
}

// P12.2: Format of each disk of each shape: the Save of its own file, and of no other's.
func TestFormat(t *testing.T) {
	for k := 1; k < 6; k++ {
		for m := 1; m < 6; m++ {
			for i := range k + m {
				a, own, log := watched(t, shape(k, m))
				want(t, "Format", a.Format(i), api.OK)
				wantLog(t, "Format", log, saving(i, "format", 11, 3)...)
				for j, w := range own {
					wanted := ""
					if j == i {
						wanted = watch.Synced("format", string(formatOf(k, m, i)))
					}
					wantState(t, "Format", w.Sim, wanted)
				}
			}
		}
	}
}

// P12.2: Format of the greatest arrays: each number goes into its byte.
func TestFormatGreat(t *testing.T) {
	for _, s := range []api.Shape{{K: 254, M: 1, Block: maxBlock}, {K: 1, M: 254, Block: minBlock}, {K: 200, M: 55, Block: 99}} {
		own, disks := sims(maxShards, nil)
		a := made(t, s, disks)
		var all []int
		for i := range maxShards {
			want(t, "Format", a.Format(i), api.OK)
			wantState(t, "Format", own[i], watch.Synced("format", string(formatOf(s.K, s.M, i))))
			all = append(all, i)
		}
		wantVoices(t, "all formatted", a, all...)
	}
}

// P12.2: a Format that fails at any operation answers that, does nothing further, and leaves what was there.
func TestFormatFails(t *testing.T) {
	for failed, op := range saveOps {
		for _, e := range anyErrors() {
			a, own, log := watched(t, shape(1, 2))
			put(t, own[1].Sim, "format", []byte("elder"))
			own[1].Before = func(now, _ string) api.Errno {
				if now == op {
					return e
				}
				return api.OK
			}
			want(t, "Format", a.Format(1), e)
			wantLog(t, "Format", log, saving(1, "format", 11, failed+1)...)
			if b, ok, _ := own[1].Look("format"); string(b) != "elder" || !ok {
				t.Fatalf("the elder file is %q, %v", b, ok)
			}
			wantVoice(t, "a Format that failed", a, 1, false, api.OK)
		}
	}
}

// P12.2: Format again mends what was there, and changes no other file.
func TestFormatAgain(t *testing.T) {
	a, own, _ := watched(t, shape(1, 1))
	put(t, own[0].Sim, "other", []byte("kept"))
	for range 3 {
		want(t, "Format", a.Format(0), api.OK)
		wantVoice(t, "formatted", a, 0, true, api.OK)
		wantState(t, "formatted", own[0].Sim, watch.Synced("format", string(formatOf(1, 1, 0)))+watch.Synced("other", "kept"))
		own[0].Flip("format", 3, 0x10)
		wantVoice(t, "one bit turned", a, 0, false, api.OK)
	}
}

// P12.2: a disk with its own format has a voice, by one Read and nothing else; so has one whose file is not synced, and one of an array with other blocks.
func TestVoice(t *testing.T) {
	for k := 1; k < 5; k++ {
		for m := 1; m < 5; m++ {
			a, own, log := watched(t, shape(k, m))
			for i, w := range own {
				want(t, "Write", w.Sim.Write("format", formatOf(k, m, i)), api.OK)
				want(t, "Write", w.Sim.Write("tmp", []byte("left")), api.OK)
				before := states(own)
				wantVoice(t, "its own format", a, i, true, api.OK)
				wantLog(t, "Voice", log, fmt.Sprintf("%d Read format", i))
				if got := states(own); got != before {
					t.Fatalf("Voice made %s of %s", got, before)
				}
			}
		}
	}
	_, disks := sims(3, nil)
	a := made(t, api.Shape{K: 2, M: 1, Block: minBlock}, disks)
	b := made(t, api.Shape{K: 2, M: 1, Block: maxBlock}, disks)
	want(t, "Format", a.Format(2), api.OK)
	wantVoice(t, "other blocks", b, 2, true, api.OK)
}

// wantNoVoice asks that a disk with that file has none, and that it is no error.
func wantNoVoice(t *testing.T, what string, k, m, i int, b []byte) {
	t.Helper()
	a, own, log := watched(t, shape(k, m))
	put(t, own[i].Sim, "format", b)
	wantVoice(t, what, a, i, false, api.OK)
	wantLog(t, what, log, fmt.Sprintf("%d Read format", i))
	wantState(t, what, own[i].Sim, watch.Synced("format", string(b)))
	wantVoices(t, what, a)
}

// P12.2: another place's format, and another array's, is none, right as its sum is.
func TestVoiceOfAnother(t *testing.T) {
	for k := range 6 {
		for m := range 6 {
			for i := range 6 {
				if k != 2 || m != 3 || i != 1 {
					wantNoVoice(t, "another's format", 2, 3, 1, formatOf(k, m, i))
				}
			}
		}
	}
	wantNoVoice(t, "K and M by turns", 2, 3, 1, formatOf(3, 2, 1))
	wantNoVoice(t, "a number below 0", 2, 3, 0, formatOf(2, 3, -1))
	for i := range 7 {
		b := formatOf(2, 3, 1)[:7]
		b[i]++
		wantNoVoice(t, "another byte, with its sum", 2, 3, 1, summed(b))
	}
	wantNoVoice(t, "a longer one, with its sum", 2, 3, 1, summed([]byte("SBF1\x02\x03\x01\x00")))
	wantNoVoice(t, "a shorter one, with its sum", 2, 3, 1, summed([]byte("SBF1\x02\x03")))
	wantNoVoice(t, "nothing, with its sum", 2, 3, 1, summed(nil))
}

// P12.2: one bit turned anywhere; one byte more, at either end; each number of bytes less; empty.
func TestVoiceOfBroken(t *testing.T) {
	own := formatOf(4, 2, 3)
	for bit := range 8 * len(own) {
		b := slices.Clone(own)
		b[bit/8] ^= 1 << (bit % 8)
		wantNoVoice(t, fmt.Sprintf("bit %d turned", bit), 4, 2, 3, b)
	}
	for x := range 256 {
		wantNoVoice(t, "one byte more", 4, 2, 3, append(slices.Clone(own), byte(x)))
	}
	wantNoVoice(t, "one byte ahead", 4, 2, 3, append([]byte{0}, own...))
	wantNoVoice(t, "twice", 4, 2, 3, append(slices.Clone(own), own...))
	for n := range own {
		wantNoVoice(t, fmt.Sprintf("%d bytes of it", n), 4, 2, 3, own[:n])
		wantNoVoice(t, fmt.Sprintf("without its first %d bytes", n+1), 4, 2, 3, own[n+1:])
	}
	wantNoVoice(t, "empty", 4, 2, 3, nil)
	wantNoVoice(t, "a sum the other way round", 4, 2, 3, append(own[:7:7], own[10], own[9], own[8], own[7]))
	wantNoVoice(t, "noughts", 4, 2, 3, make([]byte, len(own)))
}

// P12.2: no file is no voice, and no error, though one of a name much like it, or at tmp, is there.
func TestVoiceOfNone(t *testing.T) {
	a, own, log := watched(t, shape(1, 1))
	wantVoice(t, "a blank disk", a, 0, false, api.OK)
	wantLog(t, "a blank disk", log, "0 Read format")
	for _, p := range []string{"tmp", "Format", "format2", "forma", "/format"} {
		put(t, own[0].Sim, p, formatOf(1, 1, 0))
		wantVoice(t, "a file at "+p, a, 0, false, api.OK)
	}
	want(t, "Format", a.Format(0), api.OK)
	wantVoice(t, "formatted", a, 0, true, api.OK)
	own[0].Wipe()
	wantVoice(t, "a wiped disk", a, 0, false, api.OK)
}

// faulty is a disk that answers an error, and bytes beside it.
type faulty struct {
	disk.Disk
	e api.Errno
	b []byte
}

func (f *faulty) Read(path string) ([]byte, api.Errno) { return f.b, f.e }

// P12.2: an error of the Read, any but ErrNone, is answered as it is, whatever bytes the disk tells beside it.
func TestVoiceErrors(t *testing.T) {
	for _, e := range anyErrors() {
		for _, b := range [][]byte{nil, formatOf(1, 1, 0)} {
			a := made(t, shape(1, 1), []disk.Disk{&faulty{disk.New(9, nil), e, b}, disk.New(99, nil)})
			want(t, "Format", a.Format(1), api.OK)
			if e == api.ErrNone {
				wantVoice(t, "ErrNone", a, 0, false, api.OK)
			} else {
				wantVoice(t, fmt.Sprintf("error %d", e), a, 0, false, e)
			}
			wantVoices(t, "a disk with an error", a, 1)
		}
	}
}

// P12.2: offline and failing are errors while they last, of a disk with a format and of one without.
func TestVoiceFaults(t *testing.T) {
	for _, formatted := range []bool{true, false} {
		a, own, log := watched(t, shape(2, 1))
		if formatted {
			want(t, "Format", a.Format(1), api.OK)
		}
		*log = nil
		own[1].Offline(true)
		for range 3 {
			wantVoice(t, "offline", a, 1, false, api.ErrOffline)
			wantLog(t, "offline", log, "1 Read format")
		}
		own[1].Offline(false)
		wantVoice(t, "online", a, 1, formatted, api.OK)
		own[1].Fail(2)
		wantVoice(t, "failing", a, 1, false, api.ErrIO)
		wantVoice(t, "failing", a, 1, false, api.ErrIO)
		wantVoice(t, "failing no more", a, 1, formatted, api.OK)
		wantLog(t, "failing", log, slices.Repeat([]string{"1 Read format"}, 4)...)
	}
}

// befall does one of several things to disk i of an array of 3 and 3, and tells whether it still has a voice.
func befall(t *testing.T, w *watch.Disk, i, what int) bool {
	t.Helper()
	switch what {
	case 1:
		w.Offline(true)
	case 2:
		w.Fail(1)
	case 3:
		w.Wipe()
	case 4:
		w.Flip("format", i, 1<<i)
	case 5:
		put(t, w.Sim, "format", formatOf(3, 3, (i+1)%6))
	case 6:
		w.Before = func(_, _ string) api.Errno { return -7 }
	default:
		return true
	}
	return false
}

// P12.2: Voices asks each disk by itself, by one Read, from 0 on, whatever befalls the others: those that have one, rising.
func TestVoices(t *testing.T) {
	reads := []string{"0 Read format", "1 Read format", "2 Read format", "3 Read format", "4 Read format", "5 Read format"}
	for what := 1; what < 7; what++ {
		for set := range 1 << 6 {
			a, own, log := watched(t, shape(3, 3))
			var voices []int
			for i, w := range own {
				want(t, "Format", a.Format(i), api.OK)
				if befall(t, w, i, what*(set>>i&1)) {
					voices = append(voices, i)
				}
			}
			*log = nil
			before := states(own)
			wantVoices(t, fmt.Sprintf("%d befell %06b", what, set), a, voices...)
			wantLog(t, "Voices", log, reads...)
			if got := states(own); got != before {
				t.Fatalf("Voices made %s of %s", got, before)
			}
		}
	}
}

// P12.2: Voices where unlike things befall the disks; who comes back has a voice again.
func TestVoicesMixed(t *testing.T) {
	source := rand.New(rand.NewSource(12))
	for range 300 {
		a, own, _ := watched(t, shape(3, 3))
		var voices []int
		for i, w := range own {
			want(t, "Format", a.Format(i), api.OK)
			if befall(t, w, i, source.Intn(9)) {
				voices = append(voices, i)
			}
		}
		wantVoices(t, "unlike faults", a, voices...)
		for i, w := range own {
			w.Before = nil
			w.Offline(false)
			want(t, "Format", a.Format(i), api.OK)
		}
		wantVoices(t, "all formatted again", a, 0, 1, 2, 3, 4, 5)
	}
}

// P12.2: Voices of blank disks, and of disks that are all gone: none.
func TestVoicesNone(t *testing.T) {
	a, own, _ := watched(t, shape(2, 2))
	wantVoices(t, "blank disks", a)
	for i, w := range own {
		want(t, "Format", a.Format(i), api.OK)
		w.Offline(true)
	}
	wantVoices(t, "all offline", a)
}

// P12.2: a fuse that blows in the midst of Voices leaves those that were asked ahead of it.
func TestVoicesCrash(t *testing.T) {
	for n := 1; n < 7; n++ {
		f := disk.NewFuse()
		_, disks := sims(6, f)
		a := made(t, shape(3, 3), disks)
		var voices []int
		for i := range disks {
			want(t, "Format", a.Format(i), api.OK)
			if i < n {
				voices = append(voices, i)
			}
		}
		f.Set(n)
		wantVoices(t, "a crash", a, voices...)
		if f.Ops() != n {
			t.Fatalf("%d operations, want %d", f.Ops(), n)
		}
	}
}

// R4: no two answers of Voices share memory, spare room too, nor do they share any with the array.
func TestVoicesAreNew(t *testing.T) {
	a, own, _ := watched(t, shape(3, 2))
	for i := range own {
		want(t, "Format", a.Format(i), api.OK)
	}
	x, y := a.Voices(), a.Voices()
	x = x[:cap(x)]
	for i := range x {
		x[i] = -1
	}
	if !slices.Equal(y, []int{0, 1, 2, 3, 4}) {
		t.Fatalf("one answer made another %v", y)
	}
	wantVoices(t, "an answer that was changed", a, 0, 1, 2, 3, 4)
}

// plain is a disk that does not tell its room.
type plain struct{ disk.Disk }

// told is a disk that tells any room.
type told struct {
	disk.Disk
	room int
}

func (d told) Room() int { return d.room }

// shy is a disk with a Room of another kind, which makes it no disk.Roomy.
type shy struct {
	disk.Disk
	room int64
}

func (d shy) Room() int64 { return d.room }

// P12.3: what a disk.Roomy says, whatever it is; false of a disk that is none, and of nil.
func TestRoom(t *testing.T) {
	s := disk.New(30, nil)
	rooms := func(d disk.Disk, room int, ok bool) {
		t.Helper()
		if got, is := array.Room(d); got != room || is != ok {
			t.Fatalf("Room = %d, %v; want %d, %v", got, is, room, ok)
		}
	}
	rooms(s, 30, true)
	put(t, s, "a", []byte("12345"))
	rooms(s, 25, true)
	put(t, s, "b", make([]byte, 25))
	rooms(s, 0, true)
	rooms(disk.New(0, nil), 0, true)
	rooms(disk.New(1<<22, nil), 1<<22, true)
	for _, n := range []int{0, 1, -1, math.MaxInt, math.MinInt} {
		rooms(told{s, n}, n, true)
		rooms(&told{s, n}, n, true)
	}
	rooms(plain{s}, 0, false)
	rooms(&plain{s}, 0, false)
	rooms(plain{told{s, 5}}, 0, false)
	rooms(shy{s, 5}, 0, false)
	rooms(nil, 0, false)
}

// P12.3: Room is no operation: a disk that is offline, failing or behind a crash tells it, too.
func TestRoomIsNoOperation(t *testing.T) {
	f := disk.NewFuse()
	s := disk.New(30, f)
	put(t, s, "a", []byte("12345"))
	s.Offline(true)
	s.Fail(3)
	f.Set(1)
	for range 4 {
		if room, ok := array.Room(s); room != 25 || !ok || f.Ops() != 0 {
			t.Fatalf("Room = %d, %v by %d operations", room, ok, f.Ops())
		}
	}
	s.Read("a")
	if room, ok := array.Room(s); room != 25 || !ok || !f.Blown() {
		t.Fatalf("Room = %d, %v behind a crash", room, ok)
	}
}

// P12.3: of a disk that an array hands out it is asked in the same way.
func TestRoomOfArray(t *testing.T) {
	s := disk.New(40, nil)
	a := made(t, shape(1, 1), []disk.Disk{plain{s}, s})
	want(t, "Format", a.Format(0), api.OK)
	d, _ := a.Disk(0)
	if room, ok := array.Room(d); room != 0 || ok {
		t.Fatalf("Room = %d, %v of a disk that does not tell it", room, ok)
	}
	d, _ = a.Disk(1)
	if room, ok := array.Room(d); room != 29 || !ok {
		t.Fatalf("Room = %d, %v", room, ok)
	}
}

// R4: the row of disks is not changed, spare room included, and may be changed behind New.
func TestDisksAreNotKept(t *testing.T) {
	own, disks := sims(5, nil)
	row := slices.Clone(disks)
	a := made(t, shape(2, 1), row[:3])
	wantRefused(t, shape(2, 2), row[:3])
	if !slices.Equal(row, disks) {
		t.Fatal("New changed the row")
	}
	row[0], row[1], row[2] = nil, own[3], own[0]
	for i := range 3 {
		if d, ok := a.Disk(i); d != disks[i] || !ok {
			t.Fatalf("Disk(%d) is another one", i)
		}
		want(t, "Format", a.Format(i), api.OK)
		wantState(t, "Format", own[i], watch.Synced("format", string(formatOf(2, 1, i))))
	}
	wantVoices(t, "a row that was changed", a, 0, 1, 2)
	wantState(t, "a disk of no array", own[3], "")
}

// R4: two arrays of one row are each by themselves, and share the disks.
func TestTwoArrays(t *testing.T) {
	_, disks := sims(4, nil)
	a, b := made(t, shape(2, 2), disks), made(t, shape(3, 1), disks)
	for i := range 4 {
		want(t, "Format", []*array.Array{a, b}[i%2].Format(i), api.OK)
	}
	wantVoices(t, "the first", a, 0, 2)
	wantVoices(t, "the second", b, 1, 3)
	if a.Quorum() != 3 || b.Quorum() != 3 || a.Shape() != shape(2, 2) || b.Shape() != shape(3, 1) {
		t.Fatal("one array changed the other")
	}
}

// R4: what Save is given is not changed, spare room included, and may be changed behind it.
func TestBytesAreNotKept(t *testing.T) {
	own, disks := sims(2, nil)
	a := made(t, shape(1, 1), disks)
	room := filled(50)
	before := slices.Clone(room)
	want(t, "Save", a.Save(0, "x", room[10:30]), api.OK)
	want(t, "Save of no path", a.Save(1, "", room[10:30]), api.ErrArg)
	want(t, "Save on no disk", a.Save(2, "x", room[10:30]), api.ErrArg)
	if !bytes.Equal(room, before) {
		t.Fatal("Save changed what it was given")
	}
	clear(room)
	wantState(t, "bytes that were changed", own[0], watch.Synced("x", string(before[10:30])))
}

// R5: what an array answers hangs on what its disks are now, and on nothing that it was told before.
func TestNothingIsKept(t *testing.T) {
	own, disks := sims(3, nil)
	a, late := made(t, shape(2, 1), disks), made(t, shape(2, 1), disks)
	for i, s := range own {
		wantVoice(t, "blank", a, i, false, api.OK)
		put(t, s, "format", formatOf(2, 1, i))
		wantVoice(t, "formatted by another hand", a, i, true, api.OK)
		wantVoice(t, "formatted by another hand", late, i, true, api.OK)
		s.Wipe()
		wantVoice(t, "wiped", a, i, false, api.OK)
		want(t, "Format", late.Format(i), api.OK)
		wantVoice(t, "formatted by another array", a, i, true, api.OK)
	}
}

// R7: a nil array answers zero values, and ErrArg; one that New did not make has no disk, either.
func TestNil(t *testing.T) {
	var none *array.Array
	if none.Quorum() != 0 || none.Code() != nil {
		t.Fatal("a nil array answers something")
	}
	for _, a := range []*array.Array{nil, {}} {
		if a.Shape() != (api.Shape{}) || a.N() != 0 || len(a.Voices()) != 0 {
			t.Fatal("a nil array answers something")
		}
		for _, i := range []int{0, -1, 1, math.MaxInt, math.MinInt} {
			if d, ok := a.Disk(i); d != nil || ok {
				t.Fatal("a nil array has a disk")
			}
			want(t, "Save", a.Save(i, "x", []byte("new")), api.ErrArg)
			want(t, "Format", a.Format(i), api.ErrArg)
			wantVoice(t, "a nil array", a, i, false, api.ErrArg)
		}
	}
}

// R1: a disk that is there, but has nothing behind it, is no reason to panic.
func TestEmptySim(t *testing.T) {
	var none *disk.Sim
	array.Room(none)
	for _, s := range []*disk.Sim{none, {}} {
		if a, e := array.New(shape(1, 1), []disk.Disk{s, s}); e == api.OK {
			a.Format(0)
			a.Save(1, "x", nil)
			wantVoices(t, "empty disks", a)
		}
	}
}
