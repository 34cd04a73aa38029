package cell_test

import (
	"fmt"
	"math"
	"math/rand"
	"slices"
	"strings"
	"testing"

	"strongbox/api"
	"strongbox/array"
	"strongbox/cell"
	"strongbox/clock"
	"strongbox/disk"
	"strongbox/journal"
	"strongbox/watch"
)

// The limits, written out, so that one that moves is found.
const (
	maxName     = 500
	maxTag      = 1<<31 - 1
	maxVersions = 64
	maxObject   = 65536
	lastCount   = 65535
)

// shapes are small ones with their quorums: by half of N, by K, and by both.
var shapes = []struct{ k, m, quorum int }{{1, 1, 2}, {2, 1, 2}, {1, 2, 2}, {2, 2, 3}, {3, 1, 3}, {1, 3, 3}, {4, 1, 4}, {2, 3, 3}}

// bench is cells on disks that tell what they are asked; all have a voice at first.
type bench struct {
	*testing.T
	cells *cell.Cells
	disks []*watch.Disk
	log   *[]string
}

func set(t *testing.T, k, m int, f *disk.Fuse) *bench {
	t.Helper()
	own, log := watch.Disks(k+m, 1<<18, f)
	var disks []disk.Disk
	for _, w := range own {
		disks = append(disks, w)
	}
	a, e := array.New(api.Shape{K: k, M: m, Block: 16}, disks)
	if e != api.OK {
		t.Fatalf("array.New: %d", e)
	}
	for i := range own {
		if e := a.Format(i); e != api.OK {
			t.Fatalf("Format: %d", e)
		}
	}
	*log = nil
	b := &bench{T: t, disks: own, log: log}
	b.cells = cell.New(a, ticking(t, 1))
	return b
}

func ticking(t *testing.T, boot int) *clock.Clock {
	t.Helper()
	c, e := clock.New(boot)
	if e != api.OK {
		t.Fatalf("clock.New: %d", e)
	}
	return c
}

// again makes new cells of the same disks, as behind a crash.
func (b *bench) again(boot int) {
	b.Helper()
	b.cells = cell.New(b.cells.Array(), ticking(b.T, boot))
}

// tag is the tag of a boot and a count, by the words of chapter 9.
func tag(boot, count int) int { return 65536*boot + count }

// record is a journal with versions of those ids.
func record(tag int, name string, ids ...int) journal.Journal {
	j := journal.Journal{Tag: tag, Name: name}
	for _, id := range ids {
		j.Vers = append(j.Vers, api.Version{ID: id, Size: id % 100, Sum: uint32(id) * 77})
	}
	return j
}

func under(tag int, j journal.Journal) journal.Journal {
	return journal.Journal{Tag: tag, Name: j.Name, Vers: j.Vers}
}

func bytesOf(t *testing.T, j journal.Journal) []byte {
	t.Helper()
	b, e := journal.Encode(j)
	if e != api.OK {
		t.Fatalf("Encode: %d", e)
	}
	return b
}

// put makes a file behind the cells' back, synced and not told.
func (b *bench) put(i int, path string, c []byte) {
	b.Helper()
	if e := b.disks[i].Sim.Write(path, c); e != api.OK {
		b.Fatalf("Write: %d", e)
	}
	if e := b.disks[i].Sim.Sync(path); e != api.OK {
		b.Fatalf("Sync: %d", e)
	}
}

// lay makes a journal that of its name, behind the cells' back.
func (b *bench) lay(i int, j journal.Journal) {
	b.Helper()
	b.put(i, "j/"+j.Name, bytesOf(b.T, j))
}

// deaf makes each Read of that path on disk i, and nothing else, fail.
func (b *bench) deaf(i int, path string, e api.Errno) {
	b.disks[i].Before = func(op, p string) api.Errno {
		if op == "Read" && p == path {
			return e
		}
		return api.OK
	}
}

// hear takes back what befell disk i.
func (b *bench) hear(i int) { b.disks[i].Before = nil }

func (b *bench) states() string {
	var s strings.Builder
	for _, w := range b.disks {
		s.WriteString(watch.State(w.Sim) + "| ")
	}
	return s.String()
}

// places are the numbers from 0 on.
func places(n int) []int {
	var l []int
	for i := range n {
		l = append(l, i)
	}
	return l
}

// voicing is how the log tells Voices.
func (b *bench) voicing() []string { return looking("format", places(len(b.disks))...) }

// looking is how the log tells a Read of a path on each of some disks.
func looking(path string, on ...int) []string {
	var l []string
	for _, i := range on {
		l = append(l, watch.Reading(i, path))
	}
	return l
}

// saving is how the log tells a Save of a journal on each of some disks.
func (b *bench) saving(j journal.Journal, on ...int) []string {
	b.Helper()
	var l []string
	for _, i := range on {
		l = append(l, watch.Saving(i, "j/"+j.Name, len(bytesOf(b.T, j)))...)
	}
	return l
}

// did asks that just these operations were done since, in order, and begins the log anew.
func (b *bench) did(what string, lists ...[]string) {
	b.Helper()
	if wanted := slices.Concat(lists...); !slices.Equal(*b.log, wanted) {
		b.Fatalf("%s: did %q, want %q", what, *b.log, wanted)
	}
	*b.log = nil
}

// told asks that an answer is that journal without an error, or no journal beside that error.
func (b *bench) told(what string, got journal.Journal, e api.Errno, wanted journal.Journal, err api.Errno) {
	b.Helper()
	if err != api.OK {
		wanted = journal.Journal{}
	}
	if e != err || !journal.Same(got, wanted) {
		b.Fatalf("%s: %v, %d; want %v, %d", what, got, e, wanted, err)
	}
}

func (b *bench) read(what, name string, wanted journal.Journal, err api.Errno) {
	b.Helper()
	got, e := b.cells.Read(name)
	b.told(what+": Read", got, e, wanted, err)
}

func (b *bench) write(what string, j, wanted journal.Journal, err api.Errno) {
	b.Helper()
	got, e := b.cells.Write(j)
	b.told(what+": Write", got, e, wanted, err)
}

func (b *bench) clean(what, name string, wanted bool) {
	b.Helper()
	if got := b.cells.Clean(name); got != wanted {
		b.Fatalf("%s: Clean(%q) = %v, want %v", what, name, got, wanted)
	}
}

// last asks that the clock gave that tag last.
func (b *bench) last(what string, wanted int) {
	b.Helper()
	if got := b.cells.Clock().Last(); got != wanted {
		b.Fatalf("%s: the last tag is %d, want %d", what, got, wanted)
	}
}

// has asks that disk i has just that journal, synced.
func (b *bench) has(what string, i int, j journal.Journal) {
	b.Helper()
	got, synced, there := b.disks[i].Look("j/" + j.Name)
	if !there || !synced || !slices.Equal(got, bytesOf(b.T, j)) {
		b.Fatalf("%s: disk %d has %q, %v, %v; want %v", what, i, got, synced, there, j)
	}
}

func (b *bench) look(what, name string, records []journal.Journal, owners []int, voices int) {
	b.Helper()
	got, who, n := b.cells.Look(name)
	if !slices.EqualFunc(got, records, journal.Same) || !slices.Equal(who, owners) || n != voices {
		b.Fatalf("%s: Look = %v, %v, %d; want %v, %v, %d", what, got, who, n, records, owners, voices)
	}
}

// nothing asks that a Look has none of its answers.
func (b *bench) nothing(what, name string) {
	b.Helper()
	b.look(what, name, nil, nil, 0)
}

// anyErrors are numbers that a disk may answer in place of OK: those of api, and others.
func anyErrors() []api.Errno {
	l := []api.Errno{-1, -6, 100, math.MaxInt32, math.MaxInt, math.MinInt}
	for e := api.OK + 1; e <= api.ErrCrash+2; e++ {
		l = append(l, e)
	}
	return l
}

// drawn are n numbers below k each, all rows of them, one after the other.
func drawn(n, k int, each func(row []int)) {
	row := make([]int, n)
	for {
		each(row)
		i := 0
		for i < n && row[i] == k-1 {
			row[i] = 0
			i++
		}
		if i == n {
			return
		}
		row[i]++
	}
}

// P13.1: New is nil where the array or the clock is; else it has these two, asks no disk, takes no tag, and no name is clean.
func TestNew(t *testing.T) {
	b := set(t, 2, 1, nil)
	a, c := b.cells.Array(), ticking(t, 7)
	if cell.New(nil, c) != nil || cell.New(a, nil) != nil || cell.New(nil, nil) != nil {
		t.Fatal("New took what is nil")
	}
	s := cell.New(a, c)
	if s == nil || s.Array() != a || s.Clock() != c || c.Last() != 0 {
		t.Fatal("New has another array or clock, or took a tag")
	}
	for _, name := range []string{"", "n", "j/n", "format", strings.Repeat("n", maxName), strings.Repeat("n", maxName+1)} {
		b.clean("new cells", name, false)
	}
	b.did("New")
}

// P13.1: what is clean hangs on the cells, not on the array or the clock: another New of these knows of none.
func TestNewBeside(t *testing.T) {
	b := set(t, 2, 1, nil)
	b.write("one", record(0, "n", 3), record(tag(1, 1), "n", 3), api.OK)
	other := cell.New(b.cells.Array(), b.cells.Clock())
	if other.Clean("n") {
		t.Fatal("clean in others")
	}
	b.clean("one", "n", true)
	if j, e := other.Write(record(0, "n", 4)); e != api.OK || !journal.Same(j, record(tag(1, 2), "n", 4)) {
		t.Fatalf("the clock is another one: %v, %d", j, e)
	}
}

// R7: nil cells answer zero values, and ErrArg where there is an error; so do those that New did not make.
func TestNil(t *testing.T) {
	for _, s := range []*cell.Cells{nil, {}} {
		for _, name := range []string{"", "n", strings.Repeat("n", maxName+1)} {
			if j, e := s.Read(name); e != api.ErrArg || !journal.Same(j, journal.Journal{}) {
				t.Fatalf("Read: %v, %d", j, e)
			}
			if j, e := s.Write(record(3, name, 4)); e != api.ErrArg || !journal.Same(j, journal.Journal{}) {
				t.Fatalf("Write: %v, %d", j, e)
			}
			if l, who, n := s.Look(name); len(l) != 0 || len(who) != 0 || n != 0 {
				t.Fatalf("Look: %v, %v, %d", l, who, n)
			}
			if s.Clean(name) {
				t.Fatal("clean")
			}
		}
		if s.Array() != nil || s.Clock() != nil {
			t.Fatal("an array or a clock of none")
		}
	}
}

// R1: an array that its New did not make is no reason to panic, nor is such a clock, which has no tag.
func TestUnmade(t *testing.T) {
	b := set(t, 1, 1, nil)
	b.cells = cell.New(&array.Array{}, ticking(t, 1))
	b.look("no disks", "n", nil, nil, 0)
	b.cells.Read("n")
	b.cells.Write(record(0, "n"))
	b = set(t, 1, 1, nil)
	b.cells = cell.New(b.cells.Array(), &clock.Clock{})
	b.write("no clock", record(0, "n"), journal.Journal{}, api.ErrLimit)
	b.read("no clock", "n", record(0, "n"), api.OK)
}

// P13.1: Path is j/ and the name, whatever its bytes are, up to 500 of them.
func TestPath(t *testing.T) {
	for _, name := range []string{"", "n", "b/6162", "o/00000001/6b", "j/", "\x00\xff", "é", strings.Repeat("n", maxName-1), strings.Repeat("n", maxName)} {
		if got := cell.Path(name); got != "j/"+name {
			t.Fatalf("Path(%q) = %q", name, got)
		}
	}
}

// P13.1: names of no byte, of any bytes, and of 499 and 500, are read, written and looked for, each by itself.
func TestNames(t *testing.T) {
	b := set(t, 2, 1, nil)
	names := []string{"", "n", "N", "n/", "j/n", "\x00", "\xff\xfe", "é", "tmp", "format", strings.Repeat("n", maxName-1), strings.Repeat("n", maxName)}
	for i, name := range names {
		b.clean("not yet", name, false)
		b.read("not yet", name, record(0, name), api.OK)
		b.clean("read", name, true)
		b.write("first", record(0, name, i+1), record(tag(1, i+1), name, i+1), api.OK)
	}
	for i, name := range names {
		j := record(tag(1, i+1), name, i+1)
		b.look("all", name, []journal.Journal{j, j, j}, []int{0, 1, 2}, 3)
		b.read("all", name, j, api.OK)
		b.clean("all", name, true)
		for d := range b.disks {
			b.has("all", d, j)
		}
	}
}

// P13.1: names of more than 500 bytes: ErrArg, nothing, 0; no disk is asked, no tag taken, nothing changed.
func TestLongNames(t *testing.T) {
	b := set(t, 2, 1, nil)
	before := b.states()
	for _, length := range []int{maxName + 1, maxName + 2, 598, 599, 600, 601, 65536 + maxName} {
		name := strings.Repeat("n", length)
		b.nothing("too long", name)
		b.read("too long", name, journal.Journal{}, api.ErrArg)
		b.write("too long", record(0, name, 1), journal.Journal{}, api.ErrArg)
		b.clean("too long", name, false)
	}
	b.did("too long")
	b.last("too long", 0)
	if got := b.states(); got != before {
		t.Fatalf("the disks have %s; want %s", got, before)
	}
	// Though there were such a file.
	name := strings.Repeat("n", maxName+1)
	for i := range b.disks {
		b.lay(i, record(9, name, 1))
	}
	b.nothing("too long, and there", name)
	b.read("too long, and there", name, journal.Journal{}, api.ErrArg)
	b.did("too long, and there")
}

// P13.1: Voices first, from 0 on, then a Read on each disk that has one, in order; nothing is changed, no tag is taken, no name is clean by it.
func TestLookOrder(t *testing.T) {
	for _, s := range shapes {
		n := s.k + s.m
		for voices := range 1 << n {
			b := set(t, s.k, s.m, nil)
			var on []int
			var records []journal.Journal
			for i, w := range b.disks {
				j := record(10+i, "n", i)
				b.lay(i, j)
				if voices>>i&1 == 1 {
					on, records = append(on, i), append(records, j)
					continue
				}
				w.Flip("format", 8, 1)
			}
			before := b.states()
			b.look("some voices", "n", records, on, len(on))
			b.did("Look", b.voicing(), looking("j/n", on...))
			b.clean("Look", "n", false)
			b.last("Look", 0)
			if got := b.states(); got != before {
				t.Fatalf("Look made %s of %s", got, before)
			}
		}
	}
}

// P13.1: a disk has no voice that is offline, wiped, another's, or can't be read; it is not asked further, whatever it has of the name.
func TestLookNoVoice(t *testing.T) {
	for what, silence := range map[string]func(b *bench){
		"offline": func(b *bench) { b.disks[1].Offline(true) },
		"fails":   func(b *bench) { b.disks[1].Fail(1) },
		"wiped":   func(b *bench) { b.disks[1].Wipe(); b.lay(1, record(9, "n", 4)) },
		"another": func(b *bench) { c, _, _ := b.disks[0].Look("format"); b.put(1, "format", c) },
		"rotten":  func(b *bench) { b.disks[1].Flip("format", 0, 2) },
		"none":    func(b *bench) { b.disks[1].Sim.Delete("format") },
		"error":   func(b *bench) { b.deaf(1, "format", -3) },
	} {
		b := set(t, 2, 1, nil)
		b.lay(1, record(9, "n", 4))
		silence(b)
		b.look(what, "n", []journal.Journal{record(0, "n"), record(0, "n")}, []int{0, 2}, 2)
		b.did(what, b.voicing(), looking("j/n", 0, 2))
	}
}

// An answer: what a disk with a voice has, and what is known by it; nil: nothing.
type answered struct {
	what string
	file []byte
	says *journal.Journal
}

// answers are files of any kind at the Path of "name".
func answers(t *testing.T) []answered {
	says := func(j journal.Journal) answered { return answered{fmt.Sprint(j), bytesOf(t, j), &j} }
	great := record(maxTag, "name")
	for i := range maxVersions {
		great.Vers = append(great.Vers, api.Version{ID: maxTag - maxVersions + i + 1, Size: maxObject, Sum: math.MaxUint32})
	}
	marked := record(5, "name", 1, 2)
	marked.Vers = append(marked.Vers, api.Version{ID: 3, Marker: true})
	l := []answered{says(record(0, "name")), says(record(0, "name", 0)), says(record(1, "name", 7, 9)), says(great), says(marked)}
	for _, other := range []string{"", "nam", "names", "Name", "namf", "j/name", "name\x00"} {
		l = append(l, answered{"another's", bytesOf(t, record(1, other, 7)), nil})
	}
	right := bytesOf(t, record(1, "name", 7))
	for i := range right {
		l = append(l, answered{"cut", right[:i], nil})
		l = append(l, answered{"a byte turned", slices.Concat(right[:i], []byte{right[i] ^ 0x40}, right[i+1:]), nil})
	}
	l = append(l, answered{"a byte more", append(slices.Clone(right), 0), nil})
	l = append(l, answered{"as long as can be", make([]byte, api.MaxFile-1000), nil})
	return l
}

// P13.1: the journal, if the bytes are one of that Name, of any Tag and versions; no answer if they are none, rotten, cut, or another's.
func TestAnswers(t *testing.T) {
	for _, x := range answers(t) {
		b := set(t, 1, 2, nil)
		b.put(1, "j/name", x.file)
		records, owners := []journal.Journal{record(0, "name"), record(0, "name")}, []int{0, 2}
		if x.says != nil {
			records, owners = slices.Insert(records, 1, *x.says), []int{0, 1, 2}
		}
		b.look(x.what, "name", records, owners, 3)
		b.did(x.what, b.voicing(), looking("j/name", 0, 1, 2))
	}
}

// P13.1: of a Read that errs only ErrNone is an answer; every other number is none, and the disks behind it are asked all the same.
func TestAnswerErrors(t *testing.T) {
	for _, e := range anyErrors() {
		for i := range 3 {
			b := set(t, 2, 1, nil)
			var records []journal.Journal
			var owners []int
			for d := range b.disks {
				j := record(3, "n", d)
				b.lay(d, j)
				if d == i && e == api.ErrNone {
					j = record(0, "n")
				}
				if d != i || e == api.ErrNone {
					records, owners = append(records, j), append(owners, d)
				}
			}
			b.deaf(i, "j/n", e)
			b.look(fmt.Sprint("error ", e), "n", records, owners, 3)
			b.did("Look", b.voicing(), looking("j/n", 0, 1, 2))
		}
	}
}

// P13.1: a file at another path is none of the name's, nor is what a Save left at tmp.
func TestAnswerPaths(t *testing.T) {
	b := set(t, 1, 1, nil)
	j := bytesOf(t, record(3, "n", 1))
	for _, path := range []string{"n", "tmp", "j/", "j/N", "J/n", "j/n/", "s/n"} {
		b.put(0, path, j)
	}
	b.look("other paths", "n", []journal.Journal{record(0, "n"), record(0, "n")}, []int{0, 1}, 2)
}

// What a disk is when a name is read: it answers nothing, by two reasons, or that.
const (
	off = iota // no voice
	mute
	none
	elder
	young
	other // of the same Tag as young, with other versions
	kinds
)

// be makes disk i of that kind.
func (b *bench) be(i, kind int) {
	b.Helper()
	switch kind {
	case off:
		b.lay(i, record(6, "n", 61))
		b.disks[i].Offline(true)
	case mute:
		b.lay(i, record(7, "n", 71))
		b.deaf(i, "j/n", api.ErrIO)
	case elder, young, other:
		b.lay(i, said(kind))
	}
}

// said is what a disk of that kind answers.
func said(kind int) journal.Journal {
	switch kind {
	case elder:
		return record(4, "n", 41, 42)
	case young:
		return record(5, "n", 51)
	case other:
		return record(5, "n", 51, 52)
	}
	return record(0, "n")
}

// reading is what P13.2 says of disks of those kinds.
type reading struct {
	voices   []int
	answers  int
	greatest journal.Journal
	alike    int // answers of the greatest's Tag
}

func readingOf(row []int) reading {
	var r reading
	for i, kind := range row {
		if kind == off {
			continue
		}
		r.voices = append(r.voices, i)
		if kind == mute {
			continue
		}
		j := said(kind)
		if r.answers == 0 || j.Tag > r.greatest.Tag {
			r.greatest, r.alike = j, 0
		}
		r.answers++
		if j.Tag == r.greatest.Tag {
			r.alike++
		}
	}
	return r
}

// wantReading asks for all that P13.2 says of a Read of a name that is not clean.
func wantReading(t *testing.T, k, m, quorum int, row []int) {
	t.Helper()
	b := set(t, k, m, nil)
	for i, kind := range row {
		b.be(i, kind)
	}
	before := b.states()
	what := fmt.Sprintf("%d + %d, %v", k, m, row)
	r := readingOf(row)
	looked := slices.Concat(b.voicing(), looking("j/n", r.voices...))
	if r.answers < quorum || r.answers == k+m && r.alike >= quorum {
		e := api.OK
		if r.answers < quorum {
			e = api.ErrUnavailable
		}
		b.read(what, "n", r.greatest, e)
		b.did(what, looked)
		b.clean(what, "n", e == api.OK)
		b.last(what, 0)
		if got := b.states(); got != before {
			t.Fatalf("%s: Read made %s of %s", what, got, before)
		}
		return
	}
	next := under(tag(1, 1), r.greatest)
	b.read(what, "n", next, api.OK) // those that answer are a quorum, and take it
	b.did(what, looked, b.voicing(), b.saving(next, r.voices...))
	b.clean(what, "n", true)
	b.last(what, tag(1, 1))
	for i, kind := range row {
		if kind == off {
			next = record(6, "n", 61)
		} else {
			next = under(tag(1, 1), r.greatest)
		}
		b.has(what, i, next)
	}
}

// P13.2: a Read of a name that is not clean, for each choice of what each disk says: unavailable, the greatest as it is, or the greatest written anew.
func TestRead(t *testing.T) {
	for _, s := range shapes {
		drawn(s.k+s.m, kinds, func(row []int) { wantReading(t, s.k, s.m, s.quorum, row) })
	}
}

// P13.2: the example.
func TestReadExample(t *testing.T) {
	b := set(t, 2, 1, nil)
	b.lay(0, record(5, "n", 1))
	b.lay(1, record(4, "n"))
	b.disks[2].Offline(true)
	next := record(tag(1, 1), "n", 1)
	b.read("the example", "n", next, api.OK)
	b.has("the example", 0, next)
	b.has("the example", 1, next)
	if _, _, there := b.disks[2].Look("j/n"); there {
		t.Fatal("a disk that is offline has it")
	}
}

// P13.2: the greatest is so by its Tag alone: not by its versions, nor by its place; Tags are numbers from 0 to 2^31 - 1.
func TestReadByTag(t *testing.T) {
	tags := []int{0, 1, 255, 256, 65535, 65536, 1<<24 + 1, 1<<31 - 2, maxTag}
	for i, low := range tags {
		for _, high := range tags[i+1:] {
			for at := range 3 {
				b := set(t, 2, 1, nil)
				for d := range b.disks {
					b.lay(d, record(low, "n", 7, 8, 9))
				}
				b.lay(at, record(high, "n", 3))
				b.read("two tags", "n", record(tag(1, 1), "n", 3), api.OK)
			}
		}
	}
}

// P13.2: a clean name is read by a Look alone, of whichever Quorum answers, whatever Tags the others have: the greatest, as it is.
func TestReadClean(t *testing.T) {
	for _, s := range shapes {
		n := s.k + s.m
		drawn(n, 3, func(row []int) {
			b := set(t, s.k, s.m, nil)
			j := record(tag(1, 1), "n", 3)
			b.write("first", under(0, j), j, api.OK)
			*b.log = nil
			var voices []int
			answers := 0
			for i, what := range row {
				switch what {
				case 0:
					b.disks[i].Offline(true)
				case 1:
					b.deaf(i, "j/n", api.ErrCrash)
				default:
					answers++
				}
				if what != 0 {
					voices = append(voices, i)
				}
			}
			e := api.OK
			if answers < s.quorum {
				e = api.ErrUnavailable
			}
			b.read("clean", "n", j, e)
			b.did("clean", b.voicing(), looking("j/n", voices...))
			b.last("clean", tag(1, 1))
			b.clean("clean", "n", true)
			for i := range row {
				b.disks[i].Offline(false)
				b.hear(i)
			}
			b.read("clean, and all are back", "n", j, api.OK)
			b.did("clean, and all are back", b.voicing(), looking("j/n", places(n)...))
		})
	}
}

// P13.2: a clean name stays as it is where the disks are not of one mind, too: the greatest of these, the first of one Tag, and nothing is written.
func TestReadCleanUnlike(t *testing.T) {
	b := set(t, 2, 2, nil)
	b.read("nothing yet", "n", record(0, "n"), api.OK)
	for i, j := range []journal.Journal{record(4, "n", 1), record(5, "n", 2), record(5, "n", 3), record(1, "n")} {
		b.lay(i, j)
	}
	*b.log = nil
	for range 2 {
		b.read("unlike", "n", record(5, "n", 2), api.OK)
		b.did("unlike", b.voicing(), looking("j/n", 0, 1, 2, 3))
	}
	b.disks[1].Offline(true)
	b.read("unlike", "n", record(5, "n", 3), api.OK)
	b.clean("unlike", "n", true)
	b.last("unlike", 0)
}

// P13.2: where the Write of the greatest fails, its error: no quorum takes it. What was written of it stays, and the next Read goes on from there.
func TestReadWriteFails(t *testing.T) {
	b := set(t, 2, 2, nil)
	b.lay(0, record(5, "n", 1))
	for _, i := range []int{0, 3} {
		b.disks[i].Before = func(op, _ string) api.Errno {
			if op == "Rename" {
				return -9
			}
			return api.OK
		}
	}
	next := record(tag(1, 1), "n", 1)
	b.read("two take it", "n", journal.Journal{}, api.ErrUnavailable)
	b.did("two take it", b.voicing(), looking("j/n", 0, 1, 2, 3), b.voicing(), b.saving(next, 0, 1, 2, 3))
	b.clean("two take it", "n", false)
	b.has("two take it", 0, record(5, "n", 1))
	b.has("two take it", 1, next)
	b.has("two take it", 2, next)
	b.hear(3)
	b.read("three take it", "n", record(tag(1, 2), "n", 1), api.OK)
	b.clean("three take it", "n", true)
}

// P13.2: the voices are asked anew for the Write: a disk that went in between takes nothing.
func TestReadVoicesAnew(t *testing.T) {
	b := set(t, 2, 1, nil)
	b.lay(0, record(5, "n", 1))
	b.disks[1].Before = func(op, path string) api.Errno {
		if path == "j/n" {
			b.disks[1].Offline(true)
		}
		return api.OK
	}
	next := record(tag(1, 1), "n", 1)
	b.read("one went", "n", next, api.OK)
	b.did("one went", b.voicing(), looking("j/n", 0, 1, 2), b.voicing(), b.saving(next, 0, 2))
}

// exhausted takes all tags of the clock, but so many.
func (b *bench) exhausted(left int) {
	for range lastCount - left {
		b.cells.Clock().Next()
	}
}

// P13.2, P13.3: the clock's last tag is taken; behind it Write, and Read where it would write, are ErrLimit: nothing is written, what is clean stays so.
func TestNoNext(t *testing.T) {
	b := set(t, 2, 1, nil)
	b.exhausted(1)
	j := record(tag(1, lastCount), "n", 3)
	b.lay(1, record(2, "m", 5))
	b.write("the last tag", record(0, "n", 3), j, api.OK)
	before := b.states()
	*b.log = nil
	b.write("no tag", record(0, "n", 3, 4), journal.Journal{}, api.ErrLimit)
	b.did("no tag")
	b.clean("no tag", "n", true)
	b.read("no tag, clean", "n", j, api.OK)
	*b.log = nil
	b.read("no tag, and it would be written", "m", journal.Journal{}, api.ErrLimit)
	b.did("no tag, and it would be written", b.voicing(), looking("j/m", 0, 1, 2))
	b.clean("no tag, and it would be written", "m", false)
	b.read("no tag, and it need not be written", "o", record(0, "o"), api.OK)
	if got := b.states(); got != before {
		t.Fatalf("the disks have %s; want %s", got, before)
	}
	b.last("no tag", tag(1, lastCount))
}

// P13.3: of two errors it is ErrArg.
func TestWriteFirstError(t *testing.T) {
	b := set(t, 2, 1, nil)
	b.exhausted(0)
	b.write("ErrArg and ErrLimit", record(-1, "n"), journal.Journal{}, api.ErrArg)
	b.write("ErrArg and ErrLimit", record(1, strings.Repeat("n", maxName+1)), journal.Journal{}, api.ErrArg)
	for _, d := range b.disks {
		d.Offline(true)
	}
	b.write("ErrLimit and ErrUnavailable", record(1, "n"), journal.Journal{}, api.ErrLimit)
	b.write("ErrArg and ErrUnavailable", record(-1, "n"), journal.Journal{}, api.ErrArg)
	b.did("refused")
}

// P13.3: what may not be is refused: no disk is asked, no tag taken, what is clean stays so.
func TestWriteRefused(t *testing.T) {
	b := set(t, 2, 1, nil)
	j := record(tag(1, 1), "n", 3)
	b.write("first", under(0, j), j, api.OK)
	*b.log = nil
	before := b.states()
	many := record(0, "n")
	for i := range maxVersions + 1 {
		many.Vers = append(many.Vers, api.Version{ID: i})
	}
	with := func(v ...api.Version) journal.Journal { return journal.Journal{Name: "n", Vers: v} }
	for _, x := range []journal.Journal{
		record(-1, "n"), record(maxTag+1, "n"), record(math.MinInt, "n"), record(math.MaxInt, "n"), many,
		record(0, "n", 3, 3), record(0, "n", 4, 3), with(api.Version{ID: -1}), with(api.Version{ID: maxTag + 1}),
		with(api.Version{Size: -1}), with(api.Version{Size: maxObject + 1}),
		with(api.Version{Marker: true, Size: 1}), with(api.Version{Marker: true, Sum: 1}),
	} {
		b.write("refused", x, journal.Journal{}, api.ErrArg)
	}
	b.did("refused")
	b.last("refused", tag(1, 1))
	b.clean("refused", "n", true)
	if got := b.states(); got != before {
		t.Fatalf("the disks have %s; want %s", got, before)
	}
}

// P13.3: the greatest that may be is taken, and whatever Tag it had, it has the clock's next: a lesser one, too.
func TestWriteTags(t *testing.T) {
	b := set(t, 2, 1, nil)
	great := record(0, "n")
	for i := range maxVersions {
		great.Vers = append(great.Vers, api.Version{ID: maxTag - maxVersions + i + 1, Size: maxObject, Sum: math.MaxUint32})
	}
	for i, had := range []int{0, 1, tag(1, 1), tag(1, 2), tag(1, 9), maxTag} {
		next := under(tag(1, i+1), great)
		b.write("any tag", under(had, great), next, api.OK)
		b.last("any tag", tag(1, i+1))
		for d := range b.disks {
			b.has("any tag", d, next)
		}
	}
	b.again(32767)
	b.exhausted(1)
	b.write("the greatest tag", great, under(maxTag, great), api.OK)
}

// What becomes of a Save on a disk.
const (
	takes = iota
	atWrite
	atSync
	atRename
	offline
	wiped
	fates
)

// meet lets it befall disk i, and tells how many operations of a Save are told then.
func (b *bench) meet(i, fate int) int {
	switch fate {
	case atWrite, atSync, atRename:
		failing := []string{"Write", "Sync", "Rename"}[fate-atWrite]
		b.disks[i].Before = func(op, _ string) api.Errno {
			if op == failing {
				return api.Errno(-fate)
			}
			return api.OK
		}
		return fate - atWrite + 1
	case offline:
		b.disks[i].Offline(true)
		return 0
	case wiped:
		b.disks[i].Wipe()
		return 0
	}
	return 3
}

// wantWriting asks for all that P13.3 says of a Write on disks that have such fates.
func wantWriting(t *testing.T, k, m, quorum int, row []int) {
	t.Helper()
	b := set(t, k, m, nil)
	what := fmt.Sprintf("%d + %d, %v", k, m, row)
	first, next := record(tag(1, 1), "n", 3), record(tag(1, 2), "n", 3, 4)
	b.write(what, under(0, first), first, api.OK)
	b.write(what, record(0, "m"), record(tag(1, 2), "m"), api.OK)
	next.Tag = tag(1, 3)
	*b.log = nil
	took := 0
	var ops []string
	for i, fate := range row {
		ops = append(ops, b.saving(next, i)[:b.meet(i, fate)]...)
		if fate == takes {
			took++
		}
	}
	e := api.OK
	if took < quorum {
		e = api.ErrUnavailable
	}
	b.write(what, under(0, next), next, e)
	b.did(what, b.voicing(), ops)
	b.clean(what, "n", e == api.OK)
	b.clean(what, "m", true)
	b.last(what, tag(1, 3))
	for i, fate := range row {
		switch fate {
		case takes:
			b.has(what, i, next)
		case wiped:
			if _, _, there := b.disks[i].Look("j/n"); there {
				t.Fatalf("%s: disk %d has it", what, i)
			}
		default:
			b.has(what, i, first)
		}
	}
}

// P13.3: a Write, for each choice of what befalls each disk: Voices, a Save on each in order, on all of them; OK and clean where Quorum took it, else unavailable and not clean.
func TestWrite(t *testing.T) {
	for _, s := range shapes {
		if s.k+s.m < 5 {
			drawn(s.k+s.m, fates, func(row []int) { wantWriting(t, s.k, s.m, s.quorum, row) })
		}
	}
}

// P13.3: greater arrays, too: at Quorum, and one less.
func TestWriteGreat(t *testing.T) {
	for _, s := range []struct{ k, m, quorum int }{{4, 1, 4}, {4, 2, 4}, {3, 6, 5}, {10, 4, 10}, {1, 30, 16}} {
		for more := -1; more < 2; more++ {
			row := make([]int, s.k+s.m)
			for i := range row[min(s.quorum+more, len(row)):] {
				row[len(row)-1-i] = atSync
			}
			wantWriting(t, s.k, s.m, s.quorum, row)
			slices.Reverse(row)
			wantWriting(t, s.k, s.m, s.quorum, row)
		}
	}
}

// P13.3: a disk's room is not told otherwise than its other errors.
func TestWriteFull(t *testing.T) {
	b := set(t, 2, 1, nil)
	fill := make([]byte, 1<<18-100)
	b.put(0, "fill", fill)
	b.write("one is full", record(0, "n", 1, 2, 3, 4, 5, 6, 7), record(tag(1, 1), "n", 1, 2, 3, 4, 5, 6, 7), api.OK)
	b.put(2, "fill", fill[:len(fill)-100])
	b.write("two are full", record(0, "n", 1, 2, 3, 4, 5, 6, 8), journal.Journal{}, api.ErrUnavailable)
	b.clean("two are full", "n", false)
}

// P13.3: a Write needs no Read ahead of it, and asks no disk what it had; one of a name that is not clean makes it clean.
func TestWriteBlind(t *testing.T) {
	b := set(t, 2, 1, nil)
	for i := range b.disks {
		b.put(i, "j/n", []byte("rotten"))
	}
	next := record(tag(1, 1), "n", 8)
	b.write("over rot", under(0, next), next, api.OK)
	b.did("over rot", b.voicing(), b.saving(next, 0, 1, 2))
	b.clean("over rot", "n", true)
	b.read("over rot", "n", next, api.OK)
}

// P13.3: each name is clean by itself.
func TestCleanEach(t *testing.T) {
	b := set(t, 2, 1, nil)
	names := []string{"a", "b", "", "ab"}
	for i, name := range names {
		b.write("one", record(0, name), record(tag(1, i+1), name), api.OK)
	}
	for _, d := range b.disks[:2] {
		d.Offline(true)
	}
	for i, name := range names {
		b.write("two are off", record(0, name, 2), journal.Journal{}, api.ErrUnavailable)
		for at, name := range names {
			b.clean("two are off", name, at > i)
		}
	}
}

// R4: the versions handed in are not changed, spare room included, and not kept; an answer shares memory with nothing.
func TestMemory(t *testing.T) {
	b := set(t, 2, 1, nil)
	room := make([]api.Version, 6)
	for i := range room {
		room[i] = api.Version{ID: i + 1, Size: i}
	}
	before := slices.Clone(room)
	mine := journal.Journal{Name: "n", Vers: room[1:3]}
	wanted := journal.Journal{Tag: tag(1, 1), Name: "n", Vers: slices.Clone(room[1:3])}
	got, e := b.cells.Write(mine)
	b.told("Write", got, e, wanted, api.OK)
	spoil(got)
	if !slices.Equal(room, before) {
		t.Fatalf("the versions handed in are %v, want %v", room, before)
	}
	clear(room)
	for range 2 {
		got, e = b.cells.Read("n")
		b.told("Read", got, e, wanted, api.OK)
		spoil(got)
		records, owners, _ := b.cells.Look("n")
		spoil(records[0])
		if !journal.Same(records[1], wanted) || !slices.Equal(owners, []int{0, 1, 2}) {
			t.Fatalf("Look = %v, %v", records, owners)
		}
		clear(owners[:cap(owners)])
		clear(records[:cap(records)])
	}
	b.again(2)
	b.disks[0].Offline(true)
	got, e = b.cells.Read("n")
	wanted.Tag = tag(2, 1)
	b.told("Read that writes", got, e, wanted, api.OK)
	spoil(got)
	b.read("Read", "n", wanted, api.OK)
}

// spoil overwrites the versions of an answer, and the room behind them.
func spoil(j journal.Journal) {
	all := j.Vers[:cap(j.Vers)]
	for i := range all {
		all[i] = api.Version{ID: 99, Size: 99}
	}
}

// P13.4: what was told unavailable and reached the disks that answer next is there, for good.
func TestUnavailableSeen(t *testing.T) {
	b := set(t, 2, 1, nil)
	b.write("first", record(0, "n", 3), record(tag(1, 1), "n", 3), api.OK)
	b.disks[0].Offline(true)
	b.disks[1].Offline(true)
	b.write("on one", record(0, "n", 3, 4), journal.Journal{}, api.ErrUnavailable)
	b.read("one answers", "n", journal.Journal{}, api.ErrUnavailable)
	b.disks[1].Offline(false)
	b.read("seen", "n", record(tag(1, 3), "n", 3, 4), api.OK)
	b.disks[0].Offline(false)
	b.disks[2].Offline(true)
	b.read("for good", "n", record(tag(1, 3), "n", 3, 4), api.OK)
}

// P13.4: what was told unavailable and is not among the next answers is fenced: never there.
func TestUnavailableFenced(t *testing.T) {
	b := set(t, 2, 1, nil)
	b.write("first", record(0, "n", 3), record(tag(1, 1), "n", 3), api.OK)
	b.disks[0].Offline(true)
	b.disks[1].Offline(true)
	b.write("on one", record(0, "n", 3, 4), journal.Journal{}, api.ErrUnavailable)
	b.has("on one", 2, record(tag(1, 2), "n", 3, 4))
	b.disks[0].Offline(false)
	b.disks[1].Offline(false)
	b.disks[2].Offline(true)
	b.read("not seen", "n", record(tag(1, 3), "n", 3), api.OK)
	b.disks[2].Offline(false)
	for boot := 2; boot < 4; boot++ {
		for i, d := range b.disks {
			d.Offline(true)
			got, e := b.cells.Read("n")
			if e != api.OK || !slices.Equal(got.Vers, record(0, "n", 3).Vers) {
				t.Fatalf("without disk %d: %v, %d", i, got, e)
			}
			d.Offline(false)
		}
		b.again(boot)
	}
}

// life is what may be read of one name, as P13.4 says: one thing behind an OK, and more behind what was told unavailable.
type life struct {
	*bench
	fuse  *disk.Fuse
	draw  *rand.Rand
	boot  int
	count int   // writes so far; each has an id of its own
	may   []int // ids that may be the record's, 0: none
}

// id tells which write a record is of.
func id(j journal.Journal) int {
	if len(j.Vers) == 0 {
		return 0
	}
	return j.Vers[0].ID
}

func (l *life) writeOne() {
	l.count++
	j, e := l.cells.Write(record(0, "n", l.count))
	switch {
	case e == api.OK && id(j) == l.count:
		l.may = []int{l.count}
	case e == api.ErrUnavailable:
		l.may = append(l.may, l.count)
	default:
		l.Fatalf("Write: %v, %d", j, e)
	}
	if l.cells.Clean("n") != (e == api.OK) {
		l.Fatalf("behind a Write that was %d: %v", e, l.cells.Clean("n"))
	}
}

func (l *life) readOne() {
	j, e := l.cells.Read("n")
	if e == api.ErrUnavailable {
		return
	}
	if e != api.OK || !slices.Contains(l.may, id(j)) {
		l.Fatalf("Read: %v, %d; want one of %v", j, e, l.may)
	}
	l.may = []int{id(j)}
}

// crash begins anew with the next boot, when the fuse is blown.
func (l *life) crash() {
	if !l.fuse.Blown() {
		return
	}
	l.fuse.Set(0)
	for _, d := range l.disks {
		d.Crash(l.draw.Intn(50))
	}
	l.boot++
	l.again(l.boot)
}

func (l *life) step() {
	d := l.disks[l.draw.Intn(len(l.disks))]
	switch l.draw.Intn(8) {
	case 0:
		d.Offline(true)
	case 1, 2:
		d.Offline(false)
	case 3:
		d.Fail(l.draw.Intn(7))
	case 4:
		l.fuse.Set(1 + l.draw.Intn(30))
	case 5:
		l.writeOne()
	default:
		l.readOne()
	}
	l.crash()
}

// P13.4: drawn lives of disks that go, come back, fail and crash: what was read or written with OK is read till the next Write, and what was told unavailable is there or not from the next answer on.
func TestLives(t *testing.T) {
	for seed := range 400 {
		f := disk.NewFuse()
		s := shapes[seed%len(shapes)]
		l := &life{bench: set(t, s.k, s.m, f), fuse: f, draw: rand.New(rand.NewSource(int64(seed))), boot: 1, may: []int{0}}
		for range 200 {
			l.step()
		}
		f.Set(0)
		for _, d := range l.disks {
			d.Offline(false)
			d.Fail(0)
		}
		l.readOne()
		if len(l.may) != 1 {
			t.Fatalf("all disks are there, and it may still be one of %v", l.may)
		}
		wanted, e := l.cells.Read("n")
		l.told("all disks are there", wanted, e, wanted, api.OK)
	}
}

// P13.3, P13.4: a crash behind each operation of a Write: what was told OK is there, else it is there whole or not at all, and so it stays.
func TestWriteCrash(t *testing.T) {
	for blown := 1; blown <= 13; blown++ {
		for keep := range 60 {
			f := disk.NewFuse()
			b := set(t, 2, 1, f)
			b.write("first", record(0, "n", 3), record(tag(1, 1), "n", 3), api.OK)
			f.Set(blown)
			_, e := b.cells.Write(record(0, "n", 3, 4))
			took := max(0, blown-3) / 3 // three Reads of Voices, then three operations a Save
			if (e == api.OK) != (took >= 2) || e != api.OK && e != api.ErrUnavailable {
				t.Fatalf("a crash behind operation %d: %d", blown, e)
			}
			f.Set(0)
			for _, d := range b.disks {
				d.Crash(keep)
			}
			b.again(2)
			wanted := record(0, "n", 3).Vers
			if took > 0 {
				wanted = record(0, "n", 3, 4).Vers
			}
			for range 2 {
				if j, e := b.cells.Read("n"); e != api.OK || !slices.Equal(j.Vers, wanted) {
					t.Fatalf("a crash behind operation %d: %v, %d; want %v", blown, j, e, wanted)
				}
			}
		}
	}
}
