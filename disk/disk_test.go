package disk

import (
	"fmt"
	"math"
	"math/rand"
	"slices"
	"sort"
	"strings"
	"testing"

	"strongbox/api"
)

// The limits, written out, so that one that moves is found.
const (
	maxPath  = 600
	maxFile  = 262144
	maxFiles = 4096
	maxDisk  = 4194304
)

// Sim is a Disk, and one that is Roomy.
var (
	_ Disk  = (*Sim)(nil)
	_ Roomy = (*Sim)(nil)
)

// operations are the six, each on "a" (a Rename onto "b"), each answering its error alone.
var operations = []struct {
	name string
	do   func(d Disk) api.Errno
}{
	{"Read", func(d Disk) api.Errno { _, e := d.Read("a"); return e }},
	{"Write", func(d Disk) api.Errno { return d.Write("a", []byte("new")) }},
	{"Sync", func(d Disk) api.Errno { return d.Sync("a") }},
	{"Rename", func(d Disk) api.Errno { return d.Rename("a", "b") }},
	{"Delete", func(d Disk) api.Errno { return d.Delete("a") }},
	{"List", func(d Disk) api.Errno { _, e := d.List("a"); return e }},
}

// pathed are the operations that take a path, once for each place where one stands.
var pathed = []struct {
	name string
	do   func(d Disk, path string) api.Errno
}{
	{"Read", func(d Disk, path string) api.Errno { _, e := d.Read(path); return e }},
	{"Write", func(d Disk, path string) api.Errno { return d.Write(path, []byte("new")) }},
	{"Sync", func(d Disk, path string) api.Errno { return d.Sync(path) }},
	{"Rename from", func(d Disk, path string) api.Errno { return d.Rename(path, "b") }},
	{"Rename to", func(d Disk, path string) api.Errno { return d.Rename("a", path) }},
	{"Rename both", func(d Disk, path string) api.Errno { return d.Rename(path, path) }},
	{"Delete", func(d Disk, path string) api.Errno { return d.Delete(path) }},
}

func path(n int) string { return strings.Repeat("p", n) }

// state tells all that can be seen of a disk.
func state(s *Sim) string {
	var b strings.Builder
	fmt.Fprintf(&b, "used %d, room %d", s.Used(), s.Room())
	for _, p := range s.Files() {
		c, synced, there := s.Look(p)
		fmt.Fprintf(&b, "; %q %q %v %v", p, c, synced, there)
	}
	return b.String()
}

func wantState(t *testing.T, s *Sim, want string) {
	t.Helper()
	if got := state(s); got != want {
		t.Fatalf("the disk has %s; want %s", got, want)
	}
}

func want(t *testing.T, what string, got, e api.Errno) {
	t.Helper()
	if got != e {
		t.Fatalf("%s: %d, want %d", what, got, e)
	}
}

func wantFile(t *testing.T, s *Sim, p, bytes string, synced bool) {
	t.Helper()
	if b, y, there := s.Look(p); string(b) != bytes || y != synced || !there {
		t.Fatalf("Look(%q) = %q, %v, %v; want %q, %v", p, b, y, there, bytes, synced)
	}
}

func wantRead(t *testing.T, s *Sim, p, bytes string) {
	t.Helper()
	if b, e := s.Read(p); string(b) != bytes || e != api.OK {
		t.Fatalf("Read(%q) = %q, %d; want %q", p, b, e, bytes)
	}
}

func wantNoFile(t *testing.T, s *Sim, p string) {
	t.Helper()
	if b, y, there := s.Look(p); len(b) != 0 || y || there {
		t.Fatalf("Look(%q) = %q, %v, %v; want none", p, b, y, there)
	}
	if slices.Contains(s.Files(), p) {
		t.Fatalf("%q is among the Files", p)
	}
}

func wantList(t *testing.T, s *Sim, prefix string, paths ...string) {
	t.Helper()
	if l, e := s.List(prefix); !slices.Equal(l, paths) || e != api.OK {
		t.Fatalf("List(%q) = %q, %d; want %q", prefix, l, e, paths)
	}
}

func wantFuse(t *testing.T, f *Fuse, ops int, blown bool) {
	t.Helper()
	if f.Ops() != ops || f.Blown() != blown {
		t.Fatalf("the fuse has counted %d, blown %v; want %d, %v", f.Ops(), f.Blown(), ops, blown)
	}
}

// with is a disk that has files of these paths and bytes, by turns; none is synced.
func with(t *testing.T, most int, f *Fuse, files ...string) *Sim {
	t.Helper()
	s := New(most, f)
	for i := 0; i < len(files); i += 2 {
		want(t, "Write of "+files[i], s.Write(files[i], []byte(files[i+1])), api.OK)
	}
	return s
}

// The chapter's example.
func TestExample(t *testing.T) {
	s := New(100, NewFuse())
	want(t, "Write", s.Write("a", []byte("bytes")), api.OK)
	want(t, "Rename", s.Rename("a", "b"), api.OK)
	s.Crash(0)
	wantRead(t, s, "b", "")
	wantFile(t, s, "b", "", true)
	wantNoFile(t, s, "a")
}

// P10.1: paths of 0, 1, MaxPath and MaxPath + 1 bytes, in each place; the count is of bytes, whatever they are. What is refused is counted, and changes nothing.
func TestPaths(t *testing.T) {
	good := []string{"p", "a", "\x00", "\xff", " ", path(2), path(maxPath - 1), path(maxPath), strings.Repeat("é", maxPath/2), strings.Repeat("\xff", maxPath)}
	bad := []string{"", path(maxPath + 1), path(maxPath + 2), strings.Repeat("é", maxPath/2) + "p", path(65536 + 1)}
	for _, o := range pathed {
		for _, p := range good {
			s := with(t, 999, nil, "a", "A", p, "P")
			want(t, o.name+" of a path that may be", o.do(s, p), api.OK)
			want(t, o.name+" where nothing is", o.do(New(9, nil), p), map[bool]api.Errno{true: api.OK, false: api.ErrNone}[o.name == "Write"])
		}
		for _, p := range bad {
			f := NewFuse()
			s := with(t, 999, f, "a", "A", "p", "P")
			s.Sync("p")
			f.Set(0)
			before := state(s)
			want(t, fmt.Sprintf("%s of a path of %d bytes", o.name, len(p)), o.do(s, p), api.ErrArg)
			wantState(t, s, before)
			wantFuse(t, f, 1, false)
		}
	}
}

// P10.1: a path is refused ahead of what is asked of the file: that it is not there, too long, does not go in.
func TestPathsFirst(t *testing.T) {
	s := New(2, nil)
	for _, p := range []string{"", path(maxPath + 1)} {
		want(t, "Write of too much", s.Write(p, make([]byte, maxFile+1)), api.ErrArg)
		want(t, "Write without room", s.Write(p, make([]byte, 3)), api.ErrArg)
		want(t, "Rename of none", s.Rename("none", p), api.ErrArg)
		want(t, "Rename of no path", s.Rename(p, "none"), api.ErrArg)
		want(t, "Rename of both", s.Rename(p, p), api.ErrArg)
		if b, e := s.Read(p); b != nil || e != api.ErrArg {
			t.Fatalf("Read = %q, %d", b, e)
		}
		if s.Flip(p, 0, 1) {
			t.Fatal("Flip of what may not be")
		}
		wantNoFile(t, s, p)
	}
}

// P10.1: a List's prefix is no path.
func TestPrefixIsNoPath(t *testing.T) {
	s := with(t, 9, nil, "a", "", path(maxPath), "")
	wantList(t, s, "", "a", path(maxPath))
	wantList(t, s, path(maxPath), path(maxPath))
	wantList(t, s, path(maxPath+1))
	wantList(t, s, path(100*maxPath))
}

// P10.1, P10.2: of all that may befall an operation at once the first in order is answered, in each choice of them; what is asked behind it is not asked.
func TestOrderOfErrors(t *testing.T) {
	for _, o := range pathed {
		for choice := range 16 {
			blown, offline, failing, noPath := choice&1 != 0, choice&2 != 0, choice&4 != 0, choice&8 != 0
			f := NewFuse()
			s := with(t, 999, f, "a", "A", "p", "P")
			f.Set(0)
			if blown {
				f.Set(1)
				s.List("")
			}
			s.Offline(offline)
			if failing {
				s.Fail(2)
			}
			p := "p"
			if noPath {
				p = ""
			}
			wanted, ops, fails := api.OK, f.Ops()+1, 0
			if failing {
				fails = 2
			}
			switch {
			case blown:
				wanted, ops = api.ErrCrash, f.Ops()
			case offline:
				wanted = api.ErrOffline
			case failing:
				wanted, fails = api.ErrIO, 1
			case noPath:
				wanted = api.ErrArg
			}
			before := state(s)
			want(t, fmt.Sprintf("%s, choice %d", o.name, choice), o.do(s, p), wanted)
			wantFuse(t, f, ops, blown)
			if wanted != api.OK {
				wantState(t, s, before)
			}
			wantFails(t, s, f, fails)
		}
	}
}

// wantFails asks that just so many operations are still to fail, and leaves the disk online, with its fuse Set anew.
func wantFails(t *testing.T, s *Sim, f *Fuse, fails int) {
	t.Helper()
	s.Offline(false)
	f.Set(0)
	for range fails {
		_, e := s.List("")
		want(t, "List that is to fail", e, api.ErrIO)
	}
	for range 3 {
		_, e := s.List("")
		want(t, "List behind those that fail", e, api.OK)
	}
}

// P10.1: with a fault each answer beside the error is none, and nothing is done, of each operation.
func TestNothingBesideErrors(t *testing.T) {
	faults := map[api.Errno]func(s *Sim, f *Fuse){
		api.ErrCrash:   func(s *Sim, f *Fuse) { f.Set(1); s.Read("a") },
		api.ErrOffline: func(s *Sim, f *Fuse) { s.Offline(true) },
		api.ErrIO:      func(s *Sim, f *Fuse) { s.Fail(100) },
	}
	for e, cause := range faults {
		f := NewFuse()
		s := with(t, 99, f, "a", "A", "b", "B")
		cause(s, f)
		before := state(s)
		for range 5 {
			for _, o := range operations {
				want(t, o.name, o.do(s), e)
			}
			if b, got := s.Read("a"); b != nil || got != e {
				t.Fatalf("Read = %q, %d; want %d", b, got, e)
			}
			if l, got := s.List(""); l != nil || got != e {
				t.Fatalf("List = %q, %d; want %d", l, got, e)
			}
			wantState(t, s, before)
		}
	}
}

// P10.1, P10.3: a fuse that is nil, or Set at 0 or below, never blows; Set counts from there on.
func TestFuseThatNeverBlows(t *testing.T) {
	for _, n := range []int{0, -1, -2, -100, math.MinInt32, math.MinInt, math.MinInt + 1, math.MaxInt, math.MaxInt - 1, math.MaxInt32, 1000} {
		f := NewFuse()
		wantFuse(t, f, 0, false)
		s := with(t, 99, f, "a", "A", "b", "B")
		wantFuse(t, f, 2, false)
		f.Set(n)
		for i := range 300 {
			wantFuse(t, f, i, false)
			wantRead(t, s, "a", "A")
		}
		f.Set(n)
		wantFuse(t, f, 0, false)
	}
	bare := New(9, nil)
	for range 300 {
		wantList(t, bare, "")
	}
}

// P10.1, P10.3: Set at each number: so many operations are done, behind the last it is Blown, and those that are refused then are not counted.
func TestFuseBlows(t *testing.T) {
	for n := 1; n < 40; n++ {
		f := NewFuse()
		s := with(t, 99, f, "a", "A")
		f.Set(n)
		for i := range n {
			wantFuse(t, f, i, false)
			wantRead(t, s, "a", "A")
		}
		for range 50 {
			wantFuse(t, f, n, true)
			for _, o := range operations {
				want(t, o.name, o.do(s), api.ErrCrash)
			}
		}
		wantState(t, s, `used 1, room 98; "a" "A" false true`)
	}
}

// P10.1: the operation that it blows behind is done, each of the six, and one that is refused is the last, too.
func TestLastIsDone(t *testing.T) {
	after := map[string]string{
		"Read":   `used 1, room 98; "a" "A" false true`,
		"Write":  `used 3, room 96; "a" "new" false true`,
		"Sync":   `used 1, room 98; "a" "A" true true`,
		"Rename": `used 1, room 98; "b" "A" false true`,
		"Delete": `used 0, room 99`,
		"List":   `used 1, room 98; "a" "A" false true`,
	}
	for _, o := range operations {
		f := NewFuse()
		s := with(t, 99, f, "a", "A")
		f.Set(1)
		want(t, o.name, o.do(s), api.OK)
		wantFuse(t, f, 1, true)
		wantState(t, s, after[o.name])
		want(t, o.name+" again", o.do(s), api.ErrCrash)
		wantState(t, s, after[o.name])
	}
	f := NewFuse()
	s := with(t, 99, f, "a", "A")
	f.Set(1)
	if b, e := s.Read("a"); string(b) != "A" || e != api.OK || !f.Blown() {
		t.Fatalf("the last Read = %q, %d, blown %v", b, e, f.Blown())
	}
	f.Set(1)
	if l, e := s.List(""); !slices.Equal(l, []string{"a"}) || e != api.OK || !f.Blown() {
		t.Fatalf("the last List = %q, %d, blown %v", l, e, f.Blown())
	}
}

// P10.1: an operation counts though it is refused behind the fuse: offline, failing, of no path, of what is not there, of too much; and it may be the one that it blows behind.
func TestRefusedIsCounted(t *testing.T) {
	kinds := []struct {
		e  api.Errno
		do func(s *Sim) api.Errno
	}{
		{api.ErrOffline, func(s *Sim) api.Errno { s.Offline(true); defer s.Offline(false); return s.Sync("a") }},
		{api.ErrIO, func(s *Sim) api.Errno { s.Fail(1); return s.Sync("a") }},
		{api.ErrArg, func(s *Sim) api.Errno { return s.Sync("") }},
		{api.ErrArg, func(s *Sim) api.Errno { return s.Rename("a", path(maxPath+1)) }},
		{api.ErrNone, func(s *Sim) api.Errno { return s.Sync("none") }},
		{api.ErrNone, func(s *Sim) api.Errno { return s.Rename("none", "none") }},
		{api.ErrLong, func(s *Sim) api.Errno { return s.Write("a", make([]byte, maxFile+1)) }},
		{api.ErrFull, func(s *Sim) api.Errno { return s.Write("a", make([]byte, 100)) }},
	}
	for _, k := range kinds {
		f := NewFuse()
		s := with(t, 99, f, "a", "A")
		f.Set(3)
		want(t, "the first", k.do(s), k.e)
		wantFuse(t, f, 1, false)
		wantRead(t, s, "a", "A")
		wantFuse(t, f, 2, false)
		want(t, "the last", k.do(s), k.e)
		wantFuse(t, f, 3, true)
		want(t, "behind it", s.Sync("a"), api.ErrCrash)
		wantState(t, s, `used 1, room 98; "a" "A" false true`)
	}
}

// P10.1: disks of one fuse are counted together, and crash at once; one without it goes on.
func TestSharedFuse(t *testing.T) {
	f := NewFuse()
	a, b, c, apart := New(99, f), New(99, f), New(99, f), New(99, nil)
	f.Set(5)
	for i, s := range []*Sim{a, b, apart, b, a, apart, apart} {
		want(t, "Write", s.Write("x", []byte{byte('0' + i)}), api.OK)
	}
	wantFuse(t, f, 4, false)
	want(t, "Write", c.Write("x", []byte("c")), api.OK)
	wantFuse(t, f, 5, true)
	for _, s := range []*Sim{a, b, c} {
		want(t, "Write", s.Write("x", nil), api.ErrCrash)
	}
	want(t, "Write", apart.Write("x", nil), api.OK)
	wantFuse(t, f, 5, true)
	wantFile(t, a, "x", "4", false)
	wantFile(t, b, "x", "3", false)
	wantFile(t, c, "x", "c", false)
}

// P10.3, Set: again, ahead of its end, at its end and behind it: it counts anew, and is Blown no more.
func TestSetAgain(t *testing.T) {
	f := NewFuse()
	s := with(t, 99, f, "a", "A")
	for _, done := range []int{0, 1, 2, 3, 4, 7} {
		f.Set(3)
		for range done {
			s.Sync("a")
		}
		wantFuse(t, f, min(done, 3), done >= 3)
		f.Set(2)
		wantFuse(t, f, 0, false)
		want(t, "Sync", s.Sync("a"), api.OK)
		wantFuse(t, f, 1, false)
		want(t, "Sync", s.Sync("a"), api.OK)
		wantFuse(t, f, 2, true)
		want(t, "Sync", s.Sync("a"), api.ErrCrash)
		f.Set(0)
		wantFuse(t, f, 0, false)
		want(t, "Sync", s.Sync("a"), api.OK)
		f.Set(-1)
		wantFuse(t, f, 0, false)
	}
	f.Set(1)
	f.Set(math.MaxInt)
	want(t, "Sync", s.Sync("a"), api.OK)
	want(t, "Sync", s.Sync("a"), api.OK)
	wantFuse(t, f, 2, false)
}

// P10.1, Fail: so many operations fail, each of the six, none of them done, those behind are.
func TestFail(t *testing.T) {
	for _, o := range operations {
		for n := range 12 {
			f := NewFuse()
			s := with(t, 99, f, "a", "A")
			before := state(s)
			f.Set(0)
			s.Fail(n)
			for i := range n {
				want(t, o.name, o.do(s), api.ErrIO)
				wantState(t, s, before)
				wantFuse(t, f, i+1, false)
			}
			want(t, o.name, o.do(s), api.OK)
		}
	}
}

// P10.1, Fail: at 0 and below none fails; it is Set anew each time, and adds nothing to what was left.
func TestFailAgain(t *testing.T) {
	s := New(9, nil)
	f := NewFuse()
	for _, n := range []int{0, -1, -5, math.MinInt, math.MinInt + 1, math.MinInt32} {
		s.Fail(n)
		wantFails(t, s, f, 0)
		s.Fail(7)
		s.Fail(n)
		wantFails(t, s, f, 0)
		s.Fail(n)
		s.Fail(2)
		wantFails(t, s, f, 2)
	}
	s.Fail(5)
	s.List("")
	s.Fail(3)
	wantFails(t, s, f, 3)
	s.Fail(1)
	s.Fail(4)
	wantFails(t, s, f, 4)
	s.Fail(math.MaxInt)
	for range 2000 {
		_, e := s.List("")
		want(t, "List", e, api.ErrIO)
	}
	s.Fail(0)
	wantFails(t, s, f, 0)
}

// P10.1, Fail: an operation that is refused by what is asked ahead of it, or on another disk, is none of those that fail.
func TestFailBetween(t *testing.T) {
	f := NewFuse()
	s, other := with(t, 99, f, "a", "A"), with(t, 99, f, "a", "A")
	s.Fail(3)
	want(t, "Sync", s.Sync("a"), api.ErrIO)
	s.Offline(true)
	for range 5 {
		want(t, "Sync", s.Sync("a"), api.ErrOffline)
		want(t, "Sync", other.Sync("a"), api.OK)
	}
	s.Offline(false)
	want(t, "Sync of no path", s.Sync(""), api.ErrIO)
	f.Set(1)
	want(t, "Sync", other.Sync("a"), api.OK)
	for range 5 {
		want(t, "Sync", s.Sync("a"), api.ErrCrash)
	}
	wantFails(t, s, f, 1)
}

// P10.1, Fail: what is no operation uses up none of those that fail, and ends none.
func TestFailOutlasts(t *testing.T) {
	s := with(t, 99, nil, "a", "A")
	s.Fail(2)
	noOperations(s)
	s.Wipe()
	s.Crash(1)
	s.Offline(true)
	s.Offline(false)
	wantFails(t, s, nil, 2)
}

// noOperations are all calls of a disk that are none and change nothing.
func noOperations(s *Sim) {
	s.Room()
	s.Used()
	s.Files()
	s.Look("a")
	s.Look("none")
	s.Flip("a", 0, 0)
	s.Flip("none", 0, 1)
}

// P10.1, Offline: told twice is as told once; what comes back is as it was.
func TestOffline(t *testing.T) {
	s := with(t, 99, nil, "a", "A")
	s.Sync("a")
	before := state(s)
	for range 3 {
		s.Offline(true)
		s.Offline(true)
		for _, o := range operations {
			want(t, o.name, o.do(s), api.ErrOffline)
		}
		wantState(t, s, before)
		s.Offline(false)
		s.Offline(false)
		wantRead(t, s, "a", "A")
	}
}

// P10.2, Read and Write: files of each length to the limit, and past it; those that are too long leave what was there.
func TestLengths(t *testing.T) {
	s := New(maxDisk, nil)
	for _, n := range []int{0, 1, 2, 3, 4, 5, 255, 256, 65535, 65536, 65537, maxFile - 1, maxFile} {
		b := drawn(n)
		want(t, fmt.Sprintf("Write of %d bytes", n), s.Write("a", b), api.OK)
		wantRead(t, s, "a", string(b))
		wantFile(t, s, "a", string(b), false)
		if s.Used() != n || s.Room() != maxDisk-n {
			t.Fatalf("used %d, room %d of a file of %d bytes", s.Used(), s.Room(), n)
		}
	}
	s.Write("a", []byte("short"))
	s.Sync("a")
	for _, n := range []int{maxFile + 1, maxFile + 2, 2 * maxFile, maxDisk, maxDisk + 1} {
		want(t, fmt.Sprintf("Write of %d bytes", n), s.Write("a", make([]byte, n)), api.ErrLong)
		want(t, fmt.Sprintf("Write of %d bytes", n), s.Write("b", make([]byte, n)), api.ErrLong)
		wantState(t, s, `used 5, room 4194299; "a" "short" true true`)
	}
	for _, b := range [][]byte{nil, {}} {
		want(t, "Write of nothing", s.Write("a", b), api.OK)
		wantRead(t, s, "a", "")
	}
}

func drawn(n int) []byte {
	b := make([]byte, n)
	rand.New(rand.NewSource(int64(n))).Read(b)
	return b
}

// P10.2, Write: ErrLong is told ahead of ErrFull, as to bytes and as to files.
func TestLongAheadOfFull(t *testing.T) {
	for _, most := range []int{-1, 0, 1, maxFile, maxDisk} {
		want(t, "Write of too much", New(most, nil).Write("a", make([]byte, maxFile+1)), api.ErrLong)
	}
	s := crowded(t, 0)
	want(t, "Write of too much", s.Write("more", make([]byte, maxFile+1)), api.ErrLong)
	want(t, "Write of nothing", s.Write("more", nil), api.ErrFull)
}

// P10.2, P10.3, New: most at its limits and past each: just so many bytes go in, of one file or of more.
func TestMost(t *testing.T) {
	for most, takes := range map[int]int{
		-1: 0, -2: 0, math.MinInt: 0, math.MinInt32: 0, 0: 0, 1: 1, 2: 2, 100: 100,
		maxFile - 1: maxFile - 1, maxFile: maxFile, maxFile + 1: maxFile + 1,
		maxDisk - 1: maxDisk - 1, maxDisk: maxDisk, maxDisk + 1: 0, maxDisk + 2: 0, math.MaxInt32: 0, math.MaxInt: 0, math.MaxInt - 1: 0,
	} {
		s := New(most, nil)
		if s.Room() != takes || s.Used() != 0 || len(s.Files()) != 0 {
			t.Fatalf("New(%d): room %d, used %d", most, s.Room(), s.Used())
		}
		left := takes
		for i := 0; left > 0; i++ {
			n := min(left, maxFile)
			want(t, "Write", s.Write(fmt.Sprint("f", i), make([]byte, n)), api.OK)
			left -= n
			if s.Room() != left || s.Used() != takes-left {
				t.Fatalf("New(%d): room %d, used %d; want room %d", most, s.Room(), s.Used(), left)
			}
		}
		want(t, "Write of one byte too many", s.Write("x", []byte{1}), api.ErrFull)
		want(t, "Write of no byte", s.Write("x", nil), api.OK)
		wantFile(t, s, "x", "", false)
	}
}

// P10.2, Write: what just goes in, and what is one byte too many, in place of nothing, of a longer, of a shorter file, of one as long.
func TestFull(t *testing.T) {
	for _, there := range []int{-1, 0, 1, 5, 9, 10} {
		for n := range 25 {
			s := with(t, 20, nil, "other", "0123456789")
			s.Sync("other")
			if there >= 0 {
				s.Write("a", drawn(there))
				s.Sync("a")
			}
			before := state(s)
			b := drawn(n)
			if n <= 10 {
				want(t, fmt.Sprintf("Write of %d bytes on %d", n, there), s.Write("a", b), api.OK)
				wantFile(t, s, "a", string(b), false)
				if s.Room() != 10-n || s.Used() != 10+n {
					t.Fatalf("room %d, used %d behind a Write of %d bytes on %d", s.Room(), s.Used(), n, there)
				}
			} else {
				want(t, fmt.Sprintf("Write of %d bytes on %d", n, there), s.Write("a", b), api.ErrFull)
				wantState(t, s, before)
			}
			wantFile(t, s, "other", "0123456789", true)
		}
	}
}

// P10.2: what Delete, Rename onto another file, Wipe, Crash and a shorter Write give back goes in again, to the byte.
func TestRoomComesBack(t *testing.T) {
	for name, c := range map[string]struct {
		give func(s *Sim)
		room int
	}{
		"Delete":         {func(s *Sim) { s.Delete("a") }, 6},
		"Rename onto":    {func(s *Sim) { s.Rename("b", "a") }, 6},
		"Rename away":    {func(s *Sim) { s.Rename("b", "x") }, 0},
		"Rename of one":  {func(s *Sim) { s.Rename("a", "a") }, 0},
		"Rename of none": {func(s *Sim) { s.Rename("x", "a") }, 0},
		"Delete of none": {func(s *Sim) { s.Delete("x") }, 0},
		"Wipe":           {func(s *Sim) { s.Wipe() }, 10},
		"Wipe twice":     {func(s *Sim) { s.Wipe(); s.Wipe() }, 10},
		"Crash":          {func(s *Sim) { s.Crash(1) }, 8},
		"Crash of all":   {func(s *Sim) { s.Crash(0) }, 10},
		"Crash twice":    {func(s *Sim) { s.Crash(3); s.Crash(0) }, 4},
		"Crash, synced":  {func(s *Sim) { s.Sync("a"); s.Crash(0) }, 4},
		"Write":          {func(s *Sim) { s.Write("a", []byte("1")) }, 5},
		"Write too much": {func(s *Sim) { s.Write("a", make([]byte, 7)) }, 0},
		"Flip":           {func(s *Sim) { s.Flip("a", 0, 1) }, 0},
		"Sync":           {func(s *Sim) { s.Sync("a") }, 0},
	} {
		s := with(t, 10, nil, "a", "abcdef", "b", "0123")
		c.give(s)
		if s.Room() != c.room || s.Used() != 10-c.room {
			t.Errorf("%s: room %d, used %d; want room %d", name, s.Room(), s.Used(), c.room)
		}
		want(t, name+", one too many", s.Write("new", make([]byte, c.room+1)), api.ErrFull)
		want(t, name+", just as many", s.Write("new", make([]byte, c.room)), api.OK)
	}
}

// crowded is a disk of MaxFiles empty files.
func crowded(t *testing.T, most int) *Sim {
	t.Helper()
	s := New(most, nil)
	for i := range maxFiles {
		want(t, "Write of a file among those that may be", s.Write(fmt.Sprint("f", i), nil), api.OK)
	}
	return s
}

// P10.2, Write: MaxFiles files, and one more; one that is there already is none more; what goes makes place for one.
func TestMostFiles(t *testing.T) {
	s := crowded(t, 100)
	full := func() {
		t.Helper()
		want(t, "Write of one more", s.Write("more", nil), api.ErrFull)
		want(t, "Write of one more", s.Write("more", []byte("m")), api.ErrFull)
		wantNoFile(t, s, "more")
		if n := len(s.Files()); n != maxFiles {
			t.Fatalf("%d files", n)
		}
	}
	full()
	want(t, "Write of one that is there", s.Write("f7", []byte("seven")), api.OK)
	wantRead(t, s, "f7", "seven")
	full()
	want(t, "Rename to a new path", s.Rename("f7", "g7"), api.OK)
	full()
	want(t, "Rename of one path", s.Rename("f8", "f8"), api.OK)
	full()
	for _, give := range []func() api.Errno{
		func() api.Errno { return s.Delete("f9") },
		func() api.Errno { return s.Rename("f10", "f11") },
	} {
		want(t, "what makes place", give(), api.OK)
		want(t, "Write of one more", s.Write("more", []byte("m")), api.OK)
		want(t, "Rename to what was there", s.Rename("more", fmt.Sprint("n", len(s.Files()))+state(s)[:20]), api.OK)
		full()
	}
	l, e := s.List("")
	if len(l) != maxFiles || e != api.OK || !sort.StringsAreSorted(l) {
		t.Fatalf("List of all: %d, %d", len(l), e)
	}
	s.Wipe()
	want(t, "Write behind a Wipe", s.Write("more", nil), api.OK)
}

// P10.2, Sync: it is synced, until it is written again, though by the same bytes; a Sync more changes nothing; none is told.
func TestSync(t *testing.T) {
	s := with(t, 99, nil, "a", "A", "b", "B")
	for range 3 {
		want(t, "Sync", s.Sync("a"), api.OK)
		wantFile(t, s, "a", "A", true)
		wantFile(t, s, "b", "B", false)
	}
	want(t, "Sync of none", s.Sync("c"), api.ErrNone)
	wantNoFile(t, s, "c")
	s.Read("a")
	s.List("")
	wantFile(t, s, "a", "A", true)
	s.Write("a", []byte("A"))
	wantFile(t, s, "a", "A", false)
	s.Sync("a")
	s.Delete("a")
	want(t, "Sync of what is gone", s.Sync("a"), api.ErrNone)
	s.Write("a", []byte("A"))
	wantFile(t, s, "a", "A", false)
}

// P10.2, Read and Delete of what is not there, of what was; a path is not another one that begins with it.
func TestReadAndDelete(t *testing.T) {
	s := with(t, 99, nil, "ab", "1", "a", "22", "A", "333")
	for _, p := range []string{"b", "abc", "a/", "B", "aa", "a\x00", " a", path(maxPath)} {
		if b, e := s.Read(p); b != nil || e != api.ErrNone {
			t.Fatalf("Read(%q) = %q, %d", p, b, e)
		}
		want(t, "Delete of none", s.Delete(p), api.ErrNone)
	}
	wantRead(t, s, "ab", "1")
	wantRead(t, s, "a", "22")
	wantRead(t, s, "A", "333")
	s.Sync("a")
	want(t, "Delete", s.Delete("a"), api.OK)
	if b, e := s.Read("a"); b != nil || e != api.ErrNone {
		t.Fatalf("Read of what is gone = %q, %d", b, e)
	}
	want(t, "Delete again", s.Delete("a"), api.ErrNone)
	s.Crash(3)
	wantState(t, s, `used 4, room 95; "A" "333" true true; "ab" "1" true true`)
}

// P10.2, Rename: onto what is there and what is not, synced or not, each with each; a Crash brings back neither.
func TestRename(t *testing.T) {
	for choice := range 8 {
		there, fromSynced, toSynced := choice&1 != 0, choice&2 != 0, choice&4 != 0
		s := with(t, 99, nil, "from", "what it was", "other", "o")
		if fromSynced {
			s.Sync("from")
		}
		if there {
			s.Write("to", []byte("gone"))
			if toSynced {
				s.Sync("to")
			}
		}
		want(t, "Rename", s.Rename("from", "to"), api.OK)
		wantNoFile(t, s, "from")
		wantFile(t, s, "to", "what it was", fromSynced)
		wantFile(t, s, "other", "o", false)
		if s.Used() != 12 || s.Room() != 87 || len(s.Files()) != 2 {
			t.Fatalf("choice %d: used %d, room %d, %q", choice, s.Used(), s.Room(), s.Files())
		}
		want(t, "Rename again", s.Rename("from", "to"), api.ErrNone)
		s.Crash(4)
		if fromSynced {
			wantFile(t, s, "to", "what it was", true)
		} else {
			wantFile(t, s, "to", "what", true)
		}
		wantNoFile(t, s, "from")
	}
}

// P10.2, Rename: onto itself nothing is done, synced or not; of what is not there, onto itself too, it is told.
func TestRenameOfOnePath(t *testing.T) {
	s := with(t, 9, nil, "a", "A", "b", "B")
	s.Sync("b")
	before := state(s)
	want(t, "Rename of one path", s.Rename("a", "a"), api.OK)
	want(t, "Rename of one path", s.Rename("b", "b"), api.OK)
	wantState(t, s, before)
	want(t, "Rename of none", s.Rename("c", "c"), api.ErrNone)
	want(t, "Rename of none", s.Rename("c", "a"), api.ErrNone)
	want(t, "Rename of none", s.Rename("c", "d"), api.ErrNone)
	wantState(t, s, before)
	want(t, "Rename there", s.Rename("a", "c"), api.OK)
	want(t, "Rename and back", s.Rename("c", "a"), api.OK)
	wantState(t, s, before)
}

// P10.2, List and P10.3, Files: each prefix, in the order of bytes, one that another begins with ahead of it, whatever the order in which they came.
func TestList(t *testing.T) {
	inOrder := []string{"\x00", "\x00\x00", " ", "/", "A", "a", "a\x00", "a\x00\xff", "a ", "a/", "a/a", "a/b", "aa", "ab", "b", "j/61", "j/6162", "z", "\x7f", "\x80", "é", "ü", "\xff", "\xff\x00", "\xff\xff"}
	for seed := range int64(30) {
		paths := slices.Clone(inOrder)
		rand.New(rand.NewSource(seed)).Shuffle(len(paths), func(i, j int) { paths[i], paths[j] = paths[j], paths[i] })
		s := New(0, nil)
		for _, p := range paths {
			s.Write(p, nil)
		}
		if got := s.Files(); !slices.Equal(got, inOrder) {
			t.Fatalf("Files = %q", got)
		}
		wantList(t, s, "", inOrder...)
		for _, prefix := range append(inOrder, "b/", "none", "a/bc", "\xc3", "A\x00", "\xff\xff\xff") {
			var some []string
			for _, p := range inOrder {
				if len(p) >= len(prefix) && p[:len(prefix)] == prefix {
					some = append(some, p)
				}
			}
			wantList(t, s, prefix, some...)
		}
	}
	wantList(t, New(9, nil), "")
	wantList(t, New(9, nil), "a")
}

// P10.3: what is no operation is not counted, and is done though the disk is offline, failing, or its fuse blown.
func TestNoOperations(t *testing.T) {
	for _, cause := range []func(s *Sim, f *Fuse){
		func(s *Sim, f *Fuse) { s.Offline(true) },
		func(s *Sim, f *Fuse) { s.Fail(100) },
		func(s *Sim, f *Fuse) { f.Set(1); s.List("") },
	} {
		f := NewFuse()
		s := with(t, 99, f, "a", "abcdef", "b", "B")
		cause(s, f)
		ops, blown := f.Ops(), f.Blown()
		noOperations(s)
		wantState(t, s, `used 7, room 92; "a" "abcdef" false true; "b" "B" false true`)
		if !s.Flip("a", 1, 0x20) {
			t.Fatal("no Flip")
		}
		s.Crash(3)
		wantState(t, s, `used 4, room 95; "a" "aBc" true true; "b" "B" true true`)
		s.Wipe()
		wantState(t, s, `used 0, room 99`)
		wantFuse(t, f, ops, blown)
		_, e := s.List("")
		if e == api.OK {
			t.Fatal("the fault is gone")
		}
	}
}

// P10.3, Wipe: no file is there, synced or not; what is written behind it is new; the faults and the size stay.
func TestWipe(t *testing.T) {
	f := NewFuse()
	s := with(t, 9, f, "a", "A", "b", "BB")
	s.Sync("a")
	s.Wipe()
	wantState(t, s, "used 0, room 9")
	wantList(t, s, "")
	for _, o := range operations {
		if o.name != "Write" && o.name != "List" {
			want(t, o.name, o.do(s), api.ErrNone)
		}
	}
	want(t, "Write", s.Write("a", []byte("123456789")), api.OK)
	wantFile(t, s, "a", "123456789", false)
	s.Offline(true)
	s.Wipe()
	want(t, "Write", s.Write("a", nil), api.ErrOffline)
}

// P10.3, Flip: at each place of files of each length; the mask's lowest byte first, as many as there are; a second one undoes it.
func TestFlip(t *testing.T) {
	for _, n := range []int{0, 1, 2, 3, 4, 5, 6, 9} {
		for _, mask := range []uint32{0x04030201, 0, 1, 0x80000000, 0xffffffff, 0xff, 0xff00, 0xff0000, 0xff000000, 0xdeadbeef} {
			for at := -6; at <= n+6; at++ {
				before := drawn(n)
				s := with(t, 99, nil, "a", string(before), "b", string(before))
				s.Sync("b")
				after := slices.Clone(before)
				for i := range 4 {
					if at >= 0 && at < n && at+i < n {
						after[at+i] ^= byte(mask >> (8 * i))
					}
				}
				there := at >= 0 && at < n
				for _, p := range []string{"a", "b"} {
					if s.Flip(p, at, mask) != there {
						t.Fatalf("Flip at %d of %d bytes is not %v", at, n, there)
					}
					wantFile(t, s, p, string(after), p == "b")
				}
				if s.Flip("a", at, mask) != there {
					t.Fatalf("Flip at %d of %d bytes again is not %v", at, n, there)
				}
				wantFile(t, s, "a", string(before), false)
				if s.Used() != 2*n {
					t.Fatalf("used %d", s.Used())
				}
			}
		}
	}
}

// P10.3, Flip: an example that is written out, far places, and files that are not there.
func TestFlipPlaces(t *testing.T) {
	s := with(t, 99, nil, "a", "\x00\x00\x00\x00\x00\x00", "empty", "")
	if !s.Flip("a", 1, 0x04030201) || !s.Flip("a", 4, 0x88776655) || !s.Flip("a", 5, 0x44332211) {
		t.Fatal("no Flip")
	}
	wantFile(t, s, "a", "\x00\x01\x02\x03\x51\x77", false)
	for _, at := range []int{-1, -4, 6, 7, 9, 10, math.MaxInt, math.MaxInt - 3, math.MinInt, math.MinInt + 3, math.MaxInt32, math.MinInt32} {
		if s.Flip("a", at, 1) || s.Flip("empty", at, 1) {
			t.Fatalf("a Flip at %d", at)
		}
	}
	for _, p := range []string{"empty", "none", "", "aa", path(maxPath + 1)} {
		if s.Flip(p, 0, 1) || s.Flip(p, 0, 0) {
			t.Fatalf("a Flip of %q", p)
		}
	}
	wantState(t, s, `used 6, room 93; "a" "\x00\x01\x02\x03Qw" false true; "empty" "" false true`)
}

// P10.3, Crash: keep at each length, below and beyond it, modulo the length and one; what is synced stays, all is synced then.
func TestCrash(t *testing.T) {
	keeps := []int{0, -1, -2, -100, math.MinInt, math.MinInt + 1, math.MinInt32, math.MaxInt, math.MaxInt - 1, math.MaxInt32, math.MaxInt32 + 1, maxFile, maxDisk}
	for keep := 1; keep <= 30; keep++ {
		keeps = append(keeps, keep)
	}
	for _, keep := range keeps {
		s := New(999, nil)
		var kept []string
		used := 0
		for n := range 12 {
			b := drawn(n)
			s.Write(fmt.Sprint("sure", n), b)
			s.Sync(fmt.Sprint("sure", n))
			s.Write(fmt.Sprint("not", n), b)
			left := 0
			if keep > 0 {
				left = keep % (n + 1)
			}
			kept = append(kept, string(b[:left]))
			used += n + left
		}
		s.Crash(keep)
		for n, want := range kept {
			wantFile(t, s, fmt.Sprint("sure", n), string(drawn(n)), true)
			wantFile(t, s, fmt.Sprint("not", n), want, true)
		}
		if s.Used() != used || s.Room() != 999-used || len(s.Files()) != 24 {
			t.Fatalf("Crash(%d): used %d, want %d", keep, s.Used(), used)
		}
		before := state(s)
		s.Crash(0)
		s.Crash(1)
		wantState(t, s, before)
	}
}

// P10.3, Crash: a file's length, one more, two more, written out, with keeps that are the same for files of all lengths.
func TestCrashLengths(t *testing.T) {
	for keep, want := range map[int]string{-1: "", 0: "", 1: "a", 4: "abcd", 5: "abcde", 6: "", 7: "a", 11: "abcde", 12: "", math.MaxInt: "a"} { // 2^63 - 1 is 1 modulo 6
		s := with(t, 99, nil, "x", "abcde")
		s.Crash(keep)
		wantFile(t, s, "x", want, true)
	}
}

// P10.3, Crash: what was synced and then written again is not synced; what was written behind a Crash falls to the next one.
func TestCrashAgain(t *testing.T) {
	s := with(t, 99, nil, "a", "old", "b", "before")
	s.Sync("a")
	s.Write("a", []byte("newer"))
	s.Crash(2)
	wantFile(t, s, "a", "ne", true)
	wantFile(t, s, "b", "be", true)
	s.Write("b", []byte("behind"))
	s.Crash(4)
	wantFile(t, s, "a", "ne", true)
	wantFile(t, s, "b", "behi", true)
	s.Write("b", []byte("longer than it was"))
	wantRead(t, s, "b", "longer than it was")
	New(9, nil).Crash(1)
}

// P10.3, Look: of what is there and is not.
func TestLook(t *testing.T) {
	s := with(t, 99, nil, "a", "A", "empty", "")
	wantFile(t, s, "a", "A", false)
	wantFile(t, s, "empty", "", false)
	s.Sync("empty")
	wantFile(t, s, "empty", "", true)
	for _, p := range []string{"none", "", "A", "aa", "emptyy", path(maxPath + 1)} {
		wantNoFile(t, s, p)
	}
}

// R4: what was handed in or answered may be changed, spare room too, and the disk's files stay; nor does the disk change either.
func TestNothingIsShared(t *testing.T) {
	s := New(99, nil)
	whole := []byte("abcdefgh....")
	part := whole[:8]
	s.Write("a", part)
	s.Write("b", part)
	spoil := func(b []byte) {
		b = b[:cap(b)]
		for i := range b {
			b[i] = '!'
		}
	}
	same := func() {
		t.Helper()
		wantState(t, s, `used 16, room 83; "a" "abcdefgh" false true; "b" "abcdefgh" false true`)
	}
	if string(whole) != "abcdefgh...." {
		t.Fatalf("Write changed what it was given: %q", whole)
	}
	spoil(part)
	same()
	read, _ := s.Read("a")
	again, _ := s.Read("a")
	look, _, _ := s.Look("a")
	spoil(read)
	if string(again) != "abcdefgh" || string(look) != "abcdefgh" {
		t.Fatal("two answers share memory")
	}
	spoil(again)
	spoil(look)
	same()
	files, _ := s.List("")
	all := s.Files()
	for _, l := range [][]string{files, all} {
		l = l[:cap(l)]
		for i := range l {
			l[i] = "!"
		}
	}
	same()
	read, _ = s.Read("a")
	look, _, _ = s.Look("a")
	s.Flip("a", 0, 0xffffffff)
	s.Flip("b", 0, 0xffffffff)
	if string(read) != "abcdefgh" || string(look) != "abcdefgh" || strings.Trim(string(whole), "!") != "" {
		t.Fatal("a Flip changed what was answered or handed in")
	}
	s.Flip("b", 0, 0xffffffff)
	s.Rename("b", "c")
	s.Write("b", nil)
	s.Rename("c", "b")
	s.Flip("a", 0, 0xffffffff)
	same()
}

// R4: behind a Crash, too, what is cut off a file is nobody's.
func TestNothingIsSharedBehindCrash(t *testing.T) {
	s := with(t, 99, nil, "a", "abcdefgh")
	s.Crash(3)
	b, _ := s.Read("a")
	b = append(b, "XYZ"...)
	l, _, _ := s.Look("a")
	l = append(l, "UVW"...)
	wantFile(t, s, "a", "abc", true)
	if string(b) != "abcXYZ" || string(l) != "abcUVW" {
		t.Fatalf("%q, %q", b, l)
	}
}

// R5: two disks with one fuse share nothing else.
func TestDisksShareNothing(t *testing.T) {
	f := NewFuse()
	a, b := New(10, f), New(20, f)
	a.Write("x", []byte("of a"))
	b.Write("x", []byte("of b, more"))
	b.Write("y", nil)
	a.Sync("x")
	other := state(b)
	for _, do := range []func(){
		func() { a.Offline(true) },
		func() { a.Fail(1000) },
		func() { a.Offline(false) },
		func() { a.Fail(0) },
		func() { a.Flip("x", 0, 0xffff) },
		func() { a.Rename("x", "y") },
		func() { a.Write("y", []byte("0123456789")) },
		func() { a.Write("z", []byte("full")) },
		func() { a.Crash(2) },
		func() { a.Delete("y") },
		func() { a.Wipe() },
		func() { New(30, f).Write("x", []byte("third")) },
	} {
		do()
		wantState(t, b, other)
		wantRead(t, b, "x", "of b, more")
	}
	wantState(t, a, "used 0, room 10")
	if f.Ops() != 4+5+12 {
		t.Fatalf("the fuse has counted %d", f.Ops())
	}
}

// R7: a nil disk, and one that New did not make, refuse all, however often they are asked, and do not count it.
func TestNoDisk(t *testing.T) {
	var none *Sim
	for _, s := range []*Sim{none, {}} {
		for range 3 {
			for _, o := range operations {
				want(t, o.name, o.do(s), api.ErrArg)
			}
			for _, o := range pathed {
				want(t, o.name, o.do(s, ""), api.ErrArg)
			}
			if b, e := s.Read("a"); b != nil || e != api.ErrArg {
				t.Fatalf("Read = %q, %d", b, e)
			}
			if l, e := s.List(""); l != nil || e != api.ErrArg {
				t.Fatalf("List = %q, %d", l, e)
			}
			if s.Room() != 0 || s.Used() != 0 || s.Files() != nil || s.Flip("a", 0, 1) {
				t.Fatal("there is something")
			}
			wantNoFile(t, s, "a")
			s.Offline(true)
			s.Fail(2)
			s.Crash(1)
			s.Crash(-1)
			s.Wipe()
		}
	}
}

// R7: a nil fuse counts nothing and never blows, whatever is Set.
func TestNoFuse(t *testing.T) {
	var none *Fuse
	s := New(9, none)
	for _, n := range []int{1, 0, -1, math.MaxInt, math.MinInt} {
		none.Set(n)
		wantFuse(t, none, 0, false)
		want(t, "Write", s.Write("a", nil), api.OK)
		wantFuse(t, none, 0, false)
	}
}

// plain is a disk that is not Roomy.
type plain struct{ Disk }

// The chapter's Ways: what only some disks can is asked by a type assertion.
func TestRoomy(t *testing.T) {
	for _, d := range []Disk{New(5, nil), plain{New(5, nil)}} {
		want(t, "Write", d.Write("a", []byte("12")), api.OK)
		r, ok := d.(Roomy)
		_, sim := d.(*Sim)
		if ok != sim || ok && r.Room() != 3 {
			t.Fatalf("%T: Roomy %v", d, ok)
		}
	}
}

// slow is an own reading of the chapter: files in a list, and all that is told of them counted each time.
type slow struct {
	most     int
	fuse     *slowFuse
	offline  bool
	fails    int
	paths    []string
	contents [][]byte
	unsynced []string
}

type slowFuse struct{ left, ops int }

func (s *slow) place(p string) int { return slices.Index(s.paths, p) }

func (s *slow) used() int { return len(slices.Concat(s.contents...)) }

func (s *slow) remove(p string) {
	if i := s.place(p); i >= 0 {
		s.paths = slices.Delete(s.paths, i, i+1)
		s.contents = slices.Delete(s.contents, i, i+1)
	}
	s.unsynced = slices.DeleteFunc(s.unsynced, func(u string) bool { return u == p })
}

func (s *slow) add(p string, b []byte, synced bool) {
	s.remove(p)
	s.paths = append(s.paths, p)
	s.contents = append(s.contents, b)
	if !synced {
		s.unsynced = append(s.unsynced, p)
	}
}

// fault is what comes ahead of all else; left is 1 where the fuse is blown, for it is Set as n and one.
func (s *slow) fault(paths ...string) api.Errno {
	if s.fuse.left == 1 {
		return api.ErrCrash
	}
	s.fuse.ops++
	if s.fuse.left > 1 {
		s.fuse.left--
	}
	if s.offline {
		return api.ErrOffline
	}
	if s.fails > 0 {
		s.fails--
		return api.ErrIO
	}
	for _, p := range paths {
		if p == "" || len(p) > 600 {
			return api.ErrArg
		}
	}
	return api.OK
}

// do does what a step says, and tells what it answered.
func (s *slow) do(x step) string {
	switch x.kind {
	case 0:
		if e := s.fault(x.p); e != api.OK {
			return fmt.Sprint(int(e))
		}
		if s.place(x.p) < 0 {
			return "6"
		}
		return fmt.Sprintf("0 %x", s.contents[s.place(x.p)])
	case 1:
		if e := s.fault(x.p); e != api.OK {
			return fmt.Sprint(int(e))
		}
		was := 0
		if i := s.place(x.p); i >= 0 {
			was = len(s.contents[i])
		}
		if len(x.b) > 262144 {
			return "3"
		}
		if s.used()-was+len(x.b) > s.most {
			return "8"
		}
		s.add(x.p, slices.Clone(x.b), false)
		return "0"
	case 2:
		e := s.fault(x.p)
		if e == api.OK && s.place(x.p) < 0 {
			e = api.ErrNone
		}
		if e == api.OK {
			s.add(x.p, s.contents[s.place(x.p)], true)
		}
		return fmt.Sprint(int(e))
	case 3:
		e := s.fault(x.p, x.q)
		if e == api.OK && s.place(x.p) < 0 {
			e = api.ErrNone
		}
		if e == api.OK && x.p != x.q {
			b, synced := s.contents[s.place(x.p)], !slices.Contains(s.unsynced, x.p)
			s.remove(x.p)
			s.add(x.q, b, synced)
		}
		return fmt.Sprint(int(e))
	case 4:
		e := s.fault(x.p)
		if e == api.OK && s.place(x.p) < 0 {
			e = api.ErrNone
		}
		if e == api.OK {
			s.remove(x.p)
		}
		return fmt.Sprint(int(e))
	case 5:
		if e := s.fault(); e != api.OK {
			return fmt.Sprint(int(e))
		}
		list := slices.DeleteFunc(slices.Clone(s.paths), func(p string) bool { return !strings.HasPrefix(p, x.p) })
		slices.Sort(list)
		return fmt.Sprintf("0 %q", list)
	}
	return s.befall(x)
}

func (s *slow) befall(x step) string {
	switch x.kind {
	case 6:
		s.offline = x.n%2 == 0
	case 7:
		s.fails = max(x.n, 0)
	case 8:
		s.fuse.left, s.fuse.ops = max(x.n, 0), 0
		if x.n > 0 {
			s.fuse.left++
		}
	case 9:
		for _, p := range s.unsynced {
			i := s.place(p)
			n := x.n
			if n < 0 {
				n = 0
			}
			for n > len(s.contents[i]) {
				n -= len(s.contents[i]) + 1
			}
			s.contents[i] = s.contents[i][:n]
		}
		s.unsynced = nil
	case 10:
		i := s.place(x.p)
		if i < 0 || x.n < 0 || x.n >= len(s.contents[i]) {
			return "false"
		}
		for j, b := range []byte{byte(x.mask), byte(x.mask >> 8), byte(x.mask >> 16), byte(x.mask >> 24)} {
			if x.n+j < len(s.contents[i]) {
				s.contents[i][x.n+j] ^= b
			}
		}
		return "true"
	case 11:
		s.paths, s.contents, s.unsynced = nil, nil, nil
	}
	return ""
}

func (s *slow) state() string {
	var b strings.Builder
	fmt.Fprintf(&b, "used %d, room %d", s.used(), s.most-s.used())
	list := slices.Clone(s.paths)
	slices.Sort(list)
	for _, p := range list {
		fmt.Fprintf(&b, "; %q %q %v true", p, s.contents[s.place(p)], !slices.Contains(s.unsynced, p))
	}
	return b.String()
}

// step is a call of a disk, or what befalls it.
type step struct {
	kind, n int
	p, q    string
	b       []byte
	mask    uint32
}

func (x step) do(s *Sim, f *Fuse) string {
	switch x.kind {
	case 0:
		b, e := s.Read(x.p)
		if e != api.OK {
			return fmt.Sprint(int(e))
		}
		return fmt.Sprintf("0 %x", b)
	case 1:
		return fmt.Sprint(int(s.Write(x.p, x.b)))
	case 2:
		return fmt.Sprint(int(s.Sync(x.p)))
	case 3:
		return fmt.Sprint(int(s.Rename(x.p, x.q)))
	case 4:
		return fmt.Sprint(int(s.Delete(x.p)))
	case 5:
		l, e := s.List(x.p)
		if e != api.OK {
			return fmt.Sprint(int(e))
		}
		return fmt.Sprintf("0 %q", l)
	case 6:
		s.Offline(x.n%2 == 0)
	case 7:
		s.Fail(x.n)
	case 8:
		f.Set(x.n)
	case 9:
		s.Crash(x.n)
	case 10:
		return fmt.Sprint(s.Flip(x.p, x.n, x.mask))
	case 11:
		s.Wipe()
	}
	return ""
}

func drawnStep(draw *rand.Rand) step {
	paths := []string{"a", "b", "c", "ab", "abc", "j/61", "j/62", "tmp", "", path(600), path(601)}
	x := step{p: paths[draw.Intn(len(paths))], q: paths[draw.Intn(len(paths))], n: draw.Intn(12) - 2, mask: draw.Uint32()}
	x.b = make([]byte, draw.Intn(14))
	draw.Read(x.b)
	// What befalls a disk is rarer than what is asked of it, or nothing would be left to ask for.
	if x.kind = draw.Intn(8); x.kind >= 6 {
		x.kind = 6 + draw.Intn(7)
		if x.kind == 12 {
			x.kind = 10
		}
		if x.kind == 11 && draw.Intn(4) > 0 {
			x.kind = 9
		}
		if x.kind == 6 && draw.Intn(3) > 0 {
			x.n = 1
		}
		if x.kind == 8 {
			x.n *= 4
		}
	}
	return x
}

// P10.1 to P10.3: drawn lives of two disks with one fuse, against the slow reading, each step with all that can be seen.
func TestDrawnLives(t *testing.T) {
	answers := map[string]int{}
	for seed := range int64(300) {
		draw := rand.New(rand.NewSource(seed))
		f, sf := NewFuse(), &slowFuse{}
		var sims [2]*Sim
		var slows [2]*slow
		for i := range sims {
			most := 10 + draw.Intn(60)
			sims[i], slows[i] = New(most, f), &slow{most: most, fuse: sf}
		}
		for n := range 400 {
			i, x := draw.Intn(2), drawnStep(draw)
			if f.Blown() && draw.Intn(4) == 0 {
				x.kind = 8
			}
			got, wanted := x.do(sims[i], f), slows[i].do(x)
			if got != wanted {
				t.Fatalf("seed %d, step %d, %+v: %s, want %s", seed, n, x, got, wanted)
			}
			answers[strings.Fields(wanted + " -")[0]]++
			wantFuse(t, f, sf.ops, sf.left == 1)
			for j := range sims {
				wantState(t, sims[j], slows[j].state())
			}
		}
	}
	for _, e := range []string{"0", "1", "6", "8", "9", "10", "20", "true", "false"} {
		if answers[e] < 300 {
			t.Errorf("the lives hardly meet %s: %v", e, answers)
		}
	}
}
