package journal

import (
	"bytes"
	"encoding/binary"
	"hash/crc32"
	"math"
	"math/rand"
	"slices"
	"strings"
	"testing"

	"strongbox/api"
)

// sumOf is the library's sum, written as the chapter says.
func sumOf(b []byte) []byte {
	return binary.LittleEndian.AppendUint32(nil, crc32.Checksum(b, crc32.MakeTable(crc32.Castagnoli)))
}

// sealed answers b with its sum behind it.
func sealed(b []byte) []byte {
	return append(bytes.Clone(b), sumOf(b)...)
}

// bodyOf follows the words of P7.1 with none of the package's own means, whether the journal may be or not; what has no room in its bytes is cut.
func bodyOf(j Journal) []byte {
	b := []byte("SBJ1")
	b = binary.LittleEndian.AppendUint32(b, uint32(j.Tag))
	b = binary.LittleEndian.AppendUint16(b, uint16(len(j.Name)))
	b = append(b, j.Name...)
	b = append(b, byte(len(j.Vers)))
	for _, v := range j.Vers {
		b = binary.LittleEndian.AppendUint32(b, uint32(v.ID))
		b = append(b, map[bool]byte{false: 0, true: 1}[v.Marker])
		b = binary.LittleEndian.AppendUint32(b, uint32(v.Size))
		b = binary.LittleEndian.AppendUint32(b, v.Sum)
	}
	return b
}

func bytesOf(j Journal) []byte { return sealed(bodyOf(j)) }

// mayBe follows the words of P7.1, each demand on its own.
func mayBe(j Journal) bool {
	may := j.Tag >= 0 && j.Tag <= 2147483647 && len(j.Name) <= 600 && len(j.Vers) <= 64
	for i, v := range j.Vers {
		may = may && v.ID >= 0 && v.ID <= 2147483647 && v.Size >= 0 && v.Size <= 65536
		may = may && (!v.Marker || v.Size == 0 && v.Sum == 0)
		may = may && (i == 0 || j.Vers[i-1].ID < v.ID)
	}
	return may
}

// isJournal tells whether bytes with a right sum are what Encode makes of some journal: it reads them as they come, and writes them anew.
func isJournal(b []byte) (Journal, bool) {
	r := bytes.NewReader(b[:len(b)-4])
	var head struct {
		Begin [4]byte
		Tag   uint32
		Name  uint16
	}
	if binary.Read(r, binary.LittleEndian, &head) != nil || int(head.Name) > r.Len() {
		return Journal{}, false
	}
	name := make([]byte, head.Name)
	r.Read(name)
	j := Journal{Tag: int(head.Tag), Name: string(name)}
	number, err := r.ReadByte()
	if err != nil {
		return Journal{}, false
	}
	for range number {
		var v struct {
			ID     uint32
			Marker byte
			Size   uint32
			Sum    uint32
		}
		if binary.Read(r, binary.LittleEndian, &v) != nil {
			return Journal{}, false
		}
		j.Vers = append(j.Vers, api.Version{ID: int(v.ID), Marker: v.Marker != 0, Size: int(v.Size), Sum: v.Sum})
	}
	return j, mayBe(j) && bytes.Equal(b, bytesOf(j))
}

// equal holds journals against each other without Same.
func equal(a, b Journal) bool {
	return a.Tag == b.Tag && a.Name == b.Name && slices.Equal(a.Vers, b.Vers)
}

func isZero(j Journal) bool { return j.Tag == 0 && j.Name == "" && len(j.Vers) == 0 }

// plain is a journal with which nothing is wrong; each number in it is another one, so that none can stand for another.
func plain() Journal {
	return Journal{Tag: 0x01020304, Name: "b/6162", Vers: []api.Version{
		{ID: 7, Size: 0x8765, Sum: 0xfedcba98},
		{ID: 0x0a0b, Marker: true},
		{ID: 0x11121314, Size: 17, Sum: 0x21222324},
	}}
}

// with answers plain after a change; its versions are its own.
func with(change func(j *Journal)) Journal {
	j := plain()
	change(&j)
	return j
}

// rising makes n versions with ids from a first one on.
func rising(first, n int) []api.Version {
	vers := make([]api.Version, n)
	for i := range vers {
		vers[i] = api.Version{ID: first + i, Size: i, Sum: uint32(3 * i)}
	}
	return vers
}

// roomy lays versions into a greater row, so that a write into its spare room shows.
func roomy(vers []api.Version) (row, whole []api.Version) {
	whole = slices.Clone(vers)
	for range 5 {
		whole = append(whole, api.Version{ID: -77, Size: -77, Sum: 77})
	}
	return whole[:len(vers)], whole
}

// spoil writes over all of a list, its spare room too.
func spoil(vers []api.Version) {
	vers = vers[:cap(vers)]
	for i := range vers {
		vers[i] = api.Version{ID: -99, Marker: true, Size: -99, Sum: 99}
	}
}

// journals that may be and that may not be

func goodJournals() []Journal {
	good := []Journal{
		{},
		{Vers: []api.Version{}},
		{Tag: 1, Name: "a"},
		plain(),
		with(func(j *Journal) { j.Tag = 0 }),
		with(func(j *Journal) { j.Tag = math.MaxInt32 - 1 }),
		with(func(j *Journal) { j.Tag = math.MaxInt32 }),
		with(func(j *Journal) { j.Vers[0].ID = 0 }),
		with(func(j *Journal) { j.Vers[0].ID = j.Vers[1].ID - 1 }),
		with(func(j *Journal) { j.Vers[2].ID = math.MaxInt32 }),
		with(func(j *Journal) { j.Vers[0].Size = 0 }),
		with(func(j *Journal) { j.Vers[0].Size = api.MaxObject }),
		with(func(j *Journal) { j.Vers[0].Sum = 0 }),
		with(func(j *Journal) { j.Vers[0].Sum = math.MaxUint32 }),
		with(func(j *Journal) { j.Vers[2] = api.Version{ID: math.MaxInt32, Marker: true} }),
		{Vers: []api.Version{{}}},
		{Vers: []api.Version{{Marker: true}}},
		{Vers: []api.Version{{ID: 0}, {ID: math.MaxInt32}}},
		{Tag: math.MaxInt32, Name: strings.Repeat("\xff", 600), Vers: rising(math.MaxInt32-63, 64)},
	}
	for _, name := range []string{"", "x", "\x00", "\xff\xfe", "\xc3", "a\x80b", "é", "SBJ1", strings.Repeat("n", 255), strings.Repeat("n", 256), strings.Repeat("n", 257), strings.Repeat("n", 599), strings.Repeat("\x00", 600), strings.Repeat("é", 300)} {
		good = append(good, with(func(j *Journal) { j.Name = name }))
	}
	for _, n := range []int{0, 1, 2, 63, 64} {
		good = append(good, with(func(j *Journal) { j.Vers = rising(0, n) }))
	}
	return good
}

func badJournals() []Journal {
	bad := []Journal{
		with(func(j *Journal) { j.Name = strings.Repeat("n", 601) }),
		with(func(j *Journal) { j.Name = strings.Repeat("é", 300) + "n" }),
		with(func(j *Journal) { j.Name = strings.Repeat("n", 1<<16) }),
		with(func(j *Journal) { j.Name = strings.Repeat("n", 1<<16+6) }),
		with(func(j *Journal) { j.Vers = rising(0, 65) }),
		with(func(j *Journal) { j.Vers = rising(0, 256) }),
		with(func(j *Journal) { j.Vers = rising(0, 259) }),
		with(func(j *Journal) { j.Vers[1].ID = j.Vers[0].ID }),
		with(func(j *Journal) { j.Vers[1].ID = j.Vers[0].ID - 1 }),
		with(func(j *Journal) { j.Vers[2].ID = j.Vers[1].ID }),
		with(func(j *Journal) { j.Vers[2].ID = j.Vers[1].ID - 1 }),
		with(func(j *Journal) { j.Vers[2].ID = 0 }),
		with(func(j *Journal) { slices.Reverse(j.Vers) }),
		with(func(j *Journal) { j.Vers = make([]api.Version, 2) }),
		with(func(j *Journal) { j.Vers[1].Size = 1 }),
		with(func(j *Journal) { j.Vers[1].Size = -1 }),
		with(func(j *Journal) { j.Vers[1].Sum = 1 }),
		with(func(j *Journal) { j.Vers[1].Sum = math.MaxUint32 }),
		with(func(j *Journal) { j.Vers[1].Size, j.Vers[1].Sum = 1, 1 }),
		with(func(j *Journal) { j.Vers[0].Marker = true }),
		with(func(j *Journal) { j.Vers[2].Marker = true }),
	}
	wrong := []int{-1, -2, math.MinInt32, math.MinInt, math.MaxInt, 1 << 31, 1<<32 - 1, 1 << 32, 1<<32 + 7}
	for _, x := range wrong {
		bad = append(bad, with(func(j *Journal) { j.Tag = x }), with(func(j *Journal) { j.Vers = nil; j.Tag = x }))
		for i := range 3 {
			bad = append(bad, with(func(j *Journal) { j.Vers[i].ID = x }), with(func(j *Journal) { j.Vers[i].Size = x }))
		}
	}
	for i := range 3 {
		bad = append(bad, with(func(j *Journal) { j.Vers[i].Size = api.MaxObject + 1 }))
	}
	return bad
}

// P7.1

func TestExample(t *testing.T) {
	b, e := Encode(Journal{Tag: 1, Name: "a"})
	want := []byte{'S', 'B', 'J', '1', 1, 0, 0, 0, 1, 0, 'a', 0}
	if e != api.OK || len(b) != 16 || !bytes.Equal(b, append(want, sumOf(want)...)) {
		t.Errorf("Encode = %v, %d", b, e)
	}
}

func TestMay(t *testing.T) {
	for _, j := range goodJournals() {
		if !May(j) {
			t.Errorf("May(%v) = false", j)
		}
	}
	for _, j := range badJournals() {
		if May(j) {
			t.Errorf("May(%v) = true", j)
		}
	}
}

// TestBytes writes a journal out, each number with bytes that are unlike one another.
func TestBytes(t *testing.T) {
	b, e := Encode(plain())
	want := []byte{
		'S', 'B', 'J', '1', 4, 3, 2, 1,
		6, 0, 'b', '/', '6', '1', '6', '2',
		3,
		7, 0, 0, 0, 0, 0x65, 0x87, 0, 0, 0x98, 0xba, 0xdc, 0xfe,
		0x0b, 0x0a, 0, 0, 1, 0, 0, 0, 0, 0, 0, 0, 0,
		0x14, 0x13, 0x12, 0x11, 0, 17, 0, 0, 0, 0x24, 0x23, 0x22, 0x21,
	}
	if want = append(want, sumOf(want)...); e != api.OK || !bytes.Equal(b, want) {
		t.Errorf("%v, %d, want %v", b, e, want)
	}
	b, e = Encode(Journal{Name: strings.Repeat("n", 600)})
	if e != api.OK || len(b) != 615 || !bytes.Equal(b[8:10], []byte{0x58, 2}) || b[610] != 0 {
		t.Errorf("a Name of 600 bytes: %d bytes, %d", len(b), e)
	}
}

func TestEncode(t *testing.T) {
	for _, j := range goodJournals() {
		b, e := Encode(j)
		if e != api.OK || !bytes.Equal(b, bytesOf(j)) || len(b) != 15+len(j.Name)+13*len(j.Vers) {
			t.Errorf("Encode(%v) = %v, %d", j, b, e)
		}
	}
	for _, j := range badJournals() {
		if b, e := Encode(j); e != api.ErrArg || len(b) != 0 {
			t.Errorf("Encode(%v) = %v, %d", j, b, e)
		}
	}
}

// refused holds Decode to an error, with zero values beside it.
func refused(t *testing.T, what string, b []byte, e api.Errno) {
	t.Helper()
	before := bytes.Clone(b)
	if j, got := Decode(b); got != e || !isZero(j) {
		t.Errorf("%s: Decode = %v, %d, want zero, %d", what, j, got, e)
	}
	if !bytes.Equal(b, before) {
		t.Errorf("%s: the bytes were changed", what)
	}
}

func TestDecode(t *testing.T) {
	for _, j := range goodJournals() {
		if got, e := Decode(bytesOf(j)); e != api.OK || !equal(got, j) {
			t.Errorf("Decode of %v = %v, %d", j, got, e)
		}
	}
}

// TestDecodeBadJournals: a right sum, and lengths that fit, but a journal that may not be. What is cut to fit its bytes may be another journal that may.
func TestDecodeBadJournals(t *testing.T) {
	met := 0
	for _, j := range badJournals() {
		b := bytesOf(j)
		if was, ok := isJournal(b); ok {
			if got, e := Decode(b); e != api.OK || !equal(got, was) {
				t.Errorf("%v: Decode = %v, %d", j, got, e)
			}
			continue
		}
		met++
		refused(t, "a journal that may not be", b, api.ErrForm)
	}
	if met < 50 {
		t.Errorf("only %d journals were refused", met)
	}
}

func TestDecodeCut(t *testing.T) {
	for _, j := range []Journal{{}, {Name: "a"}, plain(), {Tag: 9, Name: "", Vers: rising(0, 64)}, {Name: strings.Repeat("n", 600)}} {
		b := bytesOf(j)
		for n := range len(b) {
			want := api.ErrSum
			if n < 15 {
				want = api.ErrShort
			}
			refused(t, "cut", b[:n], want)
		}
		body := b[:len(b)-4]
		for n := range len(body) {
			want := api.ErrForm
			if n < 11 {
				want = api.ErrShort
			}
			refused(t, "cut, with a right sum", sealed(body[:n]), want)
		}
	}
	refused(t, "nil", nil, api.ErrShort)
	refused(t, "empty", []byte{}, api.ErrShort)
}

func TestDecodeBytesBehind(t *testing.T) {
	for _, j := range []Journal{{}, {Name: "a"}, plain(), {Vers: rising(0, 64)}} {
		b := bytesOf(j)
		for _, n := range []int{1, 2, 4, 12, 13, 14, 26, 255, 256} {
			for _, x := range []byte{0, 1, 255} {
				more := bytes.Repeat([]byte{x}, n)
				refused(t, "bytes behind", append(bytes.Clone(b), more...), api.ErrSum)
				refused(t, "bytes behind, then a sum", sealed(append(bytes.Clone(b), more...)), api.ErrForm)
				refused(t, "bytes ahead of the sum", sealed(append(bodyOf(j), more...)), api.ErrForm)
			}
		}
		refused(t, "twice", append(bytes.Clone(b), b...), api.ErrSum)
		refused(t, "twice, then a sum", sealed(append(bytes.Clone(b), b...)), api.ErrForm)
	}
}

func TestDecodeLong(t *testing.T) {
	for _, n := range []int{api.MaxFile + 1, api.MaxFile + 2, 2 * api.MaxFile} {
		refused(t, "zeros", make([]byte, n), api.ErrLong)
		body := append(bodyOf(plain()), make([]byte, n)...)[:n-4]
		refused(t, "a journal, bytes behind, a right sum", sealed(body), api.ErrLong)
	}
	for _, n := range []int{api.MaxFile, api.MaxFile - 1} {
		refused(t, "ones", bytes.Repeat([]byte{1}, n), api.ErrSum)
		body := append(bodyOf(plain()), make([]byte, n)...)[:n-4]
		refused(t, "a journal, bytes behind, a right sum", sealed(body), api.ErrForm)
		refused(t, "another beginning, a right sum", sealed(make([]byte, n-4)), api.ErrForm)
	}
}

func TestDecodeEachByteChanged(t *testing.T) {
	b := bytesOf(plain())
	for at := range b {
		for by := 1; by < 256; by++ {
			c := bytes.Clone(b)
			c[at] ^= byte(by)
			refused(t, "a byte changed", c, api.ErrSum)
		}
	}
	long := bytesOf(Journal{Tag: 5, Name: strings.Repeat("n", 600), Vers: rising(3, 64)})
	for at := range long {
		c := bytes.Clone(long)
		c[at] ^= 0x40
		refused(t, "a byte of a long one changed", c, api.ErrSum)
	}
}

// held holds Decode of bytes with a right sum to what isJournal says of them; it answers whether they are a journal.
func held(t *testing.T, b []byte) bool {
	t.Helper()
	want, ok := isJournal(b)
	got, e := Decode(b)
	if ok && (e != api.OK || !equal(got, want)) {
		t.Errorf("Decode(%v) = %v, %d, want %v", b, got, e, want)
	}
	if !ok && (e != api.ErrForm || !isZero(got)) {
		t.Errorf("Decode(%v) = %v, %d, want ErrForm", b, got, e)
	}
	return ok
}

func TestDecodeEachByteChangedWithRightSum(t *testing.T) {
	yes, no := 0, 0
	for _, j := range []Journal{{}, {Tag: 1, Name: "a"}, plain(), {Name: "n", Vers: rising(0, 3)}, {Vers: []api.Version{{ID: 1, Marker: true}}}} {
		body := bodyOf(j)
		for at := range body {
			for by := 1; by < 256; by++ {
				c := bytes.Clone(body)
				c[at] ^= byte(by)
				if held(t, sealed(c)) {
					yes++
				} else {
					no++
				}
			}
		}
	}
	if yes < 1000 || no < 1000 {
		t.Errorf("%d are journals, %d are not: too few to tell", yes, no)
	}
}

// TestDecodeDrawn: several bytes changed, taken out and put in at once.
func TestDecodeDrawn(t *testing.T) {
	r := rand.New(rand.NewSource(7))
	good := goodJournals()
	for range 20000 {
		body := bodyOf(good[r.Intn(len(good))])
		for range r.Intn(4) {
			at := r.Intn(len(body))
			switch r.Intn(3) {
			case 0:
				body[at] = byte(r.Intn(256)) >> r.Intn(8)
			case 1:
				body = slices.Insert(body, at, make([]byte, 1+r.Intn(14))...)
			case 2:
				body = slices.Delete(body, at, min(len(body), at+1+r.Intn(14)))
			}
			if len(body) < 11 {
				body = append(body, make([]byte, 11)...)
			}
		}
		held(t, sealed(body))
	}
}

// put answers a copy of plain's body with bytes at a place, and a right sum.
func put(at int, with ...byte) []byte {
	b := bodyOf(plain())
	copy(b[at:], with)
	return sealed(b)
}

// Where fields stand in plain's bytes.
const (
	atTag   = 4
	atName  = 8
	atVers  = 16
	atFirst = 17
	atMark  = 17 + 13
	atThird = 17 + 26
)

func TestDecodeBeginning(t *testing.T) {
	for at := range 4 {
		for x := range 256 {
			if byte(x) != "SBJ1"[at] {
				refused(t, "another beginning", put(at, byte(x)), api.ErrForm)
			}
		}
	}
	refused(t, "the beginning of a shard", put(0, []byte("SBX1")...), api.ErrForm)
	refused(t, "the next beginning", put(0, []byte("SBJ2")...), api.ErrForm)
	refused(t, "small letters", put(0, []byte("sbj1")...), api.ErrForm)
	refused(t, "15 zeros and their sum", sealed(make([]byte, 11)), api.ErrForm)
}

func TestDecodeMarkerByte(t *testing.T) {
	for x := 2; x < 256; x++ {
		refused(t, "a Marker byte", put(atMark+4, byte(x)), api.ErrForm)
		refused(t, "a Marker byte of an object", put(atFirst+4, byte(x)), api.ErrForm)
	}
	refused(t, "a Marker with Size and Sum", put(atFirst+4, 1), api.ErrForm)
	refused(t, "a Marker with a Size", put(atMark+5, 1), api.ErrForm)
	refused(t, "a Marker with a Size's highest byte", put(atMark+8, 1), api.ErrForm)
	refused(t, "a Marker with a Sum", put(atMark+9, 1), api.ErrForm)
	refused(t, "a Marker with a Sum's highest byte", put(atMark+12, 128), api.ErrForm)
	want := with(func(j *Journal) { j.Vers[1].Marker = false })
	if j, e := Decode(put(atMark+4, 0)); e != api.OK || !equal(j, want) {
		t.Errorf("a Marker made none: %v, %d", j, e)
	}
}

func TestDecodeNumbersThatDoNotFit(t *testing.T) {
	for n := range 1 << 16 {
		if n != 6 {
			held(t, put(atName, byte(n), byte(n>>8)))
		}
	}
	for _, n := range []int{0, 1, 5, 7, 19, 32, 45, 46, 47, 255, 256, 262, 600, 601, 65535} {
		refused(t, "the Name's number", put(atName, byte(n), byte(n>>8)), api.ErrForm)
	}
	for n := range 256 {
		if n != 3 {
			refused(t, "the versions' number", put(atVers, byte(n)), api.ErrForm)
		}
	}
	for n := 65; n < 256; n++ {
		refused(t, "too many versions, with lengths that fit", bytesOf(Journal{Vers: rising(0, n)}), api.ErrForm)
	}
	for _, n := range []int{601, 602, 1000, 65535} {
		refused(t, "too long a Name, with lengths that fit", bytesOf(Journal{Name: strings.Repeat("n", n)}), api.ErrForm)
	}
}

func TestDecodeNumbersBeyondLimits(t *testing.T) {
	refused(t, "Tag 2^31", put(atTag, 0, 0, 0, 128), api.ErrForm)
	refused(t, "Tag 2^32 - 1", put(atTag, 255, 255, 255, 255), api.ErrForm)
	refused(t, "ID 2^31", put(atThird, 0, 0, 0, 128), api.ErrForm)
	refused(t, "ID 2^32 - 1", put(atThird, 255, 255, 255, 255), api.ErrForm)
	refused(t, "first ID 2^32 - 1", put(atFirst, 255, 255, 255, 255), api.ErrForm)
	refused(t, "Size MaxObject + 1", put(atFirst+5, 1, 0, 1, 0), api.ErrForm)
	refused(t, "Size 2^31", put(atFirst+5, 0, 0, 0, 128), api.ErrForm)
	refused(t, "Size 2^32 - 1", put(atFirst+5, 255, 255, 255, 255), api.ErrForm)
	for _, c := range []struct {
		b    []byte
		want Journal
	}{
		{put(atTag, 255, 255, 255, 127), with(func(j *Journal) { j.Tag = math.MaxInt32 })},
		{put(atThird, 255, 255, 255, 127), with(func(j *Journal) { j.Vers[2].ID = math.MaxInt32 })},
		{put(atFirst+5, 0, 0, 1, 0), with(func(j *Journal) { j.Vers[0].Size = api.MaxObject })},
		{put(atFirst+9, 255, 255, 255, 255), with(func(j *Journal) { j.Vers[0].Sum = math.MaxUint32 })},
	} {
		if j, e := Decode(c.b); e != api.OK || !equal(j, c.want) {
			t.Errorf("%v, %d, want %v", j, e, c.want)
		}
	}
}

func TestDecodeIDsThatDoNotRise(t *testing.T) {
	refused(t, "the first as the second", put(atFirst, 0x0b, 0x0a), api.ErrForm)
	refused(t, "the first above the second", put(atFirst, 0x0c, 0x0a), api.ErrForm)
	refused(t, "the third as the second", put(atThird, 0x0b, 0x0a, 0, 0), api.ErrForm)
	refused(t, "the third below the second", put(atThird, 0x0a, 0x0a, 0, 0), api.ErrForm)
	refused(t, "the third as the first", put(atThird, 7, 0, 0, 0), api.ErrForm)
}

// TestDecodeTwoFaults: the first of the errors is told, whatever else is wrong.
func TestDecodeTwoFaults(t *testing.T) {
	wrongSum := func(b []byte) []byte {
		b[len(b)-1] ^= 1
		return b
	}
	other := append([]byte("TBJ1"), make([]byte, api.MaxFile)...)
	refused(t, "long, another beginning, another sum", other, api.ErrLong)
	refused(t, "long, another sum", append(bytesOf(plain()), make([]byte, api.MaxFile)...), api.ErrLong)
	for n := range 15 {
		refused(t, "short, another beginning, another sum", bytes.Repeat([]byte{'T'}, n), api.ErrShort)
		if n >= 4 {
			refused(t, "short, a right sum", sealed(bodyOf(plain())[:n-4]), api.ErrShort)
			refused(t, "short, another beginning, a right sum", sealed(make([]byte, n-4)), api.ErrShort)
		}
	}
	refused(t, "another sum, another beginning", wrongSum(put(0, 'T')), api.ErrSum)
	refused(t, "another sum, a Marker byte", wrongSum(put(atMark+4, 2)), api.ErrSum)
	refused(t, "another sum, the Name's number", wrongSum(put(atName, 255, 255)), api.ErrSum)
	refused(t, "another sum, the versions' number", wrongSum(put(atVers, 4)), api.ErrSum)
	refused(t, "another sum, ids that fall", wrongSum(put(atThird, 0, 0, 0, 0)), api.ErrSum)
	refused(t, "another sum, 15 bytes", append(make([]byte, 14), 1), api.ErrSum)
	refused(t, "another sum, greatest length", append(make([]byte, api.MaxFile-1), 1), api.ErrSum)
	refused(t, "another beginning, a Marker byte", sealed(append([]byte("TBJ1"), put(atMark+4, 2)[4:56]...)), api.ErrForm)
}

// TestDecodeSumElsewhere: the sum is that of all ahead of it, the lowest byte first.
func TestDecodeSumElsewhere(t *testing.T) {
	body := bodyOf(plain())
	sum := sumOf(body)
	slices.Reverse(sum)
	refused(t, "the sum turned round", append(bytes.Clone(body), sum...), api.ErrSum)
	refused(t, "the sum without the beginning", append(bytes.Clone(body), sumOf(body[4:])...), api.ErrSum)
	refused(t, "the sum turned over", append(bytes.Clone(body), binary.LittleEndian.AppendUint32(nil, ^binary.LittleEndian.Uint32(sumOf(body)))...), api.ErrSum)
	refused(t, "the sum 0", append(bytes.Clone(body), 0, 0, 0, 0), api.ErrSum)
}

// P7.2

func TestFind(t *testing.T) {
	j := plain()
	for _, v := range j.Vers {
		if got, ok := Find(j, v.ID); !ok || got != v {
			t.Errorf("Find(%d) = %v, %v", v.ID, got, ok)
		}
	}
	for _, id := range []int{0, 6, 8, -7, -1, 0x0a0a, 0x0a0c, 0x11121313, 0x11121315, 1<<32 + 7, math.MaxInt32, math.MaxInt, math.MinInt} {
		if got, ok := Find(j, id); ok || got != (api.Version{}) {
			t.Errorf("Find(%d) = %v, %v", id, got, ok)
		}
	}
	for _, j := range []Journal{{}, {Tag: 3, Name: "a", Vers: []api.Version{}}} {
		if got, ok := Find(j, 0); ok || got != (api.Version{}) {
			t.Errorf("Find in none = %v, %v", got, ok)
		}
	}
	full := Journal{Vers: rising(10, 64)}
	for id := range 100 {
		got, ok := Find(full, id)
		there := id >= 10 && id < 74
		if ok != there || there && got != full.Vers[id-10] || !there && got != (api.Version{}) {
			t.Errorf("Find(%d) in a full one = %v, %v", id, got, ok)
		}
	}
}

func TestLatest(t *testing.T) {
	for _, j := range goodJournals() {
		got, ok := Latest(j)
		if n := len(j.Vers); n == 0 && (ok || got != (api.Version{})) || n > 0 && (!ok || got != j.Vers[n-1]) {
			t.Errorf("Latest(%v) = %v, %v", j, got, ok)
		}
	}
	marked := with(func(j *Journal) { j.Vers = j.Vers[:2] })
	if got, ok := Latest(marked); !ok || got != (api.Version{ID: 0x0a0b, Marker: true}) {
		t.Errorf("Latest = %v, %v, want the Marker", got, ok)
	}
}

func TestAdd(t *testing.T) {
	for _, j := range goodJournals() {
		if len(j.Vers) == 64 {
			continue
		}
		last := -1
		if n := len(j.Vers); n > 0 {
			last = j.Vers[n-1].ID
		}
		if last == math.MaxInt32 {
			continue
		}
		for _, v := range []api.Version{
			{ID: last + 1},
			{ID: last + 1, Marker: true},
			{ID: math.MaxInt32, Size: api.MaxObject, Sum: math.MaxUint32},
			{ID: math.MaxInt32, Marker: true},
		} {
			want := Journal{Tag: j.Tag, Name: j.Name, Vers: append(slices.Clone(j.Vers), v)}
			if got, e := Add(j, v); e != api.OK || !equal(got, want) {
				t.Errorf("Add(%v, %v) = %v, %d", j, v, got, e)
			}
		}
	}
}

// addRefused holds Add to an error, with zero values beside it.
func addRefused(t *testing.T, j Journal, v api.Version, e api.Errno) {
	t.Helper()
	if got, f := Add(j, v); f != e || !isZero(got) {
		t.Errorf("Add(%v, %v) = %v, %d, want zero, %d", j, v, got, f, e)
	}
}

func TestAddNotAboveTheLast(t *testing.T) {
	last := 0x11121314
	for _, id := range []int{last, last - 1, 7, 6, 8, 0, -1, math.MinInt32, math.MinInt, 1<<32 + last - 1} {
		addRefused(t, plain(), api.Version{ID: id}, api.ErrArg)
		addRefused(t, plain(), api.Version{ID: id, Marker: true}, api.ErrArg)
	}
	end := Journal{Vers: []api.Version{{ID: math.MaxInt32}}}
	for _, id := range []int{math.MaxInt32, 1 << 31, 1 << 32, math.MaxInt, 0} {
		addRefused(t, end, api.Version{ID: id}, api.ErrArg)
	}
}

func TestAddVersionThatMayNotBe(t *testing.T) {
	for _, j := range []Journal{{}, plain(), {Vers: rising(0, 63)}} {
		for _, v := range []api.Version{
			{ID: 1 << 31},
			{ID: 1 << 32},
			{ID: 1<<32 + 0x11121315},
			{ID: math.MaxInt},
			{ID: 0x20000000, Size: -1},
			{ID: 0x20000000, Size: api.MaxObject + 1},
			{ID: 0x20000000, Size: 1 << 32},
			{ID: 0x20000000, Size: math.MinInt},
			{ID: 0x20000000, Marker: true, Size: 1},
			{ID: 0x20000000, Marker: true, Sum: 1},
			{ID: 0x20000000, Marker: true, Size: 1, Sum: 1},
		} {
			addRefused(t, j, v, api.ErrArg)
		}
	}
	addRefused(t, Journal{}, api.Version{ID: -1}, api.ErrArg)
	addRefused(t, Journal{}, api.Version{ID: math.MinInt}, api.ErrArg)
}

func TestAddToJournalThatMayNotBe(t *testing.T) {
	v := api.Version{ID: math.MaxInt32}
	met := 0
	for _, j := range badJournals() {
		if len(j.Vers) < 64 {
			met++
			addRefused(t, j, v, api.ErrArg)
		}
	}
	if met == 0 {
		t.Error("no journal was asked")
	}
}

func TestAddToFull(t *testing.T) {
	j := Journal{Tag: 5, Name: "a"}
	for i := range 64 {
		more, e := Add(j, api.Version{ID: 2 * i})
		if e != api.OK || len(more.Vers) != i+1 {
			t.Fatalf("Add of version %d: %d, %d versions", i, e, len(more.Vers))
		}
		j = more
	}
	for _, v := range []api.Version{{ID: 127}, {ID: 126}, {ID: 3}, {ID: -1}, {ID: 1 << 31}, {ID: 200, Size: -1}, {ID: 200, Marker: true, Sum: 1}} {
		addRefused(t, j, v, api.ErrLimit)
	}
	addRefused(t, Journal{Tag: -1, Vers: rising(0, 64)}, api.Version{ID: 99}, api.ErrLimit)
	for _, n := range []int{65, 100, 1000} {
		addRefused(t, Journal{Vers: rising(0, n)}, api.Version{ID: 5000}, api.ErrLimit)
	}
}

func TestDrop(t *testing.T) {
	for _, j := range goodJournals() {
		for i, v := range j.Vers {
			want := Journal{Tag: j.Tag, Name: j.Name, Vers: append(slices.Clone(j.Vers[:i]), j.Vers[i+1:]...)}
			if got, ok := Drop(j, v.ID); !ok || !equal(got, want) {
				t.Errorf("Drop(%v, %d) = %v, %v", j, v.ID, got, ok)
			}
		}
	}
	for _, id := range []int{0, 6, 8, -7, -1, 0x0a0a, 0x0a0c, 1<<32 + 7, math.MaxInt32, math.MaxInt, math.MinInt} {
		if got, ok := Drop(plain(), id); ok || !isZero(got) {
			t.Errorf("Drop(%d) = %v, %v", id, got, ok)
		}
	}
	for _, j := range []Journal{{}, {Tag: 3, Name: "a", Vers: []api.Version{}}} {
		if got, ok := Drop(j, 0); ok || !isZero(got) {
			t.Errorf("Drop from none = %v, %v", got, ok)
		}
	}
}

func TestDropAndAdd(t *testing.T) {
	j := Journal{Tag: 5, Name: "a", Vers: rising(0, 64)}
	for i := range 200 {
		less, ok := Drop(j, i)
		more, e := Add(less, api.Version{ID: 64 + i})
		if !ok || e != api.OK || len(more.Vers) != 64 || !May(more) || more.Tag != 5 || more.Name != "a" {
			t.Fatalf("round %d: %v, %d, %v", i, ok, e, more)
		}
		j = more
	}
	for len(j.Vers) > 0 {
		last, _ := Latest(j)
		j, _ = Drop(j, last.ID)
	}
	if j.Tag != 5 || j.Name != "a" {
		t.Errorf("without versions: %v", j)
	}
}

func TestSame(t *testing.T) {
	if !Same(plain(), plain()) || !Same(Journal{}, Journal{}) || !Same(Journal{}, Journal{Vers: []api.Version{}}) || !Same(Journal{Vers: []api.Version{}}, Journal{}) {
		t.Error("journals that are the same are told unlike")
	}
	room, _ := roomy(plain().Vers)
	if !Same(plain(), with(func(j *Journal) { j.Vers = room })) {
		t.Error("spare room is told as unlike")
	}
	for i, other := range []Journal{
		with(func(j *Journal) { j.Tag++ }),
		with(func(j *Journal) { j.Tag += 1 << 32 }),
		with(func(j *Journal) { j.Name = "" }),
		with(func(j *Journal) { j.Name += "\x00" }),
		with(func(j *Journal) { j.Name = "b/6163" }),
		with(func(j *Journal) { j.Name = "B/6162" }),
		with(func(j *Journal) { j.Vers = nil }),
		with(func(j *Journal) { j.Vers = j.Vers[:2] }),
		with(func(j *Journal) { j.Vers = j.Vers[1:] }),
		with(func(j *Journal) { j.Vers = append(j.Vers, api.Version{}) }),
		with(func(j *Journal) { j.Vers = append(j.Vers, api.Version{ID: 0x11121315}) }),
		with(func(j *Journal) { j.Vers[0], j.Vers[2] = j.Vers[2], j.Vers[0] }),
		with(func(j *Journal) { j.Vers[0].ID++ }),
		with(func(j *Journal) { j.Vers[1].ID++ }),
		with(func(j *Journal) { j.Vers[2].ID += 1 << 32 }),
		with(func(j *Journal) { j.Vers[0].Marker = true }),
		with(func(j *Journal) { j.Vers[1].Marker = false }),
		with(func(j *Journal) { j.Vers[0].Size++ }),
		with(func(j *Journal) { j.Vers[2].Size = -1 }),
		with(func(j *Journal) { j.Vers[0].Sum++ }),
		with(func(j *Journal) { j.Vers[2].Sum = 0 }),
	} {
		if Same(plain(), other) || Same(other, plain()) {
			t.Errorf("case %d is told the same: %v", i, other)
		}
		if !Same(other, other) {
			t.Errorf("case %d is told unlike itself", i)
		}
	}
}

// TestJournalsThatMayNotBe: nobody refuses them but Encode and Add (R6); of one id that is there twice it is the first.
func TestJournalsThatMayNotBe(t *testing.T) {
	odd := Journal{Tag: -5, Name: strings.Repeat("n", 700), Vers: []api.Version{
		{ID: 9, Size: -1}, {ID: -3, Marker: true, Sum: 4}, {ID: 9, Size: 1 << 40}, {ID: math.MaxInt},
	}}
	if v, ok := Find(odd, -3); !ok || v != odd.Vers[1] {
		t.Errorf("Find(-3) = %v, %v", v, ok)
	}
	if v, ok := Find(odd, 9); !ok || v != odd.Vers[0] {
		t.Errorf("Find(9) = %v, %v", v, ok)
	}
	if v, ok := Latest(odd); !ok || v != odd.Vers[3] {
		t.Errorf("Latest = %v, %v", v, ok)
	}
	want := Journal{Tag: odd.Tag, Name: odd.Name, Vers: slices.Clone(odd.Vers[1:])}
	if got, ok := Drop(odd, 9); !ok || !equal(got, want) {
		t.Errorf("Drop(9) = %v, %v", got, ok)
	}
	if got, ok := Drop(odd, 10); ok || !isZero(got) {
		t.Errorf("Drop(10) = %v, %v", got, ok)
	}
	for _, j := range badJournals() {
		if !Same(j, j) || Same(j, odd) {
			t.Errorf("Same of %v", j)
		}
	}
}

// R4, R5

func TestNothingIsChanged(t *testing.T) {
	row, whole := roomy(plain().Vers)
	before := slices.Clone(whole)
	j := with(func(j *Journal) { j.Vers = row })
	May(j)
	Encode(j)
	Same(j, j)
	Latest(j)
	Add(j, api.Version{ID: math.MaxInt32})
	Add(j, api.Version{ID: 3})
	for _, v := range plain().Vers {
		Find(j, v.ID)
		Drop(j, v.ID)
	}
	Find(j, 1)
	Drop(j, 1)
	if !slices.Equal(whole, before) {
		t.Errorf("the versions were changed: %v", whole)
	}
	b := append(bytesOf(j), 0xa5, 0xa5, 0xa5, 0xa5)
	bytesBefore := bytes.Clone(b)
	Decode(b[:len(b)-4])
	Decode(b)
	if !bytes.Equal(b, bytesBefore) {
		t.Errorf("the bytes were changed: %v", b)
	}
}

// TestNothingIsShared writes over all that was handed in, and over each answer, and looks whether another one is changed by it.
func TestNothingIsShared(t *testing.T) {
	for _, n := range []int{1, 2, 3, 63} {
		made := func() Journal {
			row, _ := roomy(rising(5, n))
			return Journal{Tag: 1, Name: "a", Vers: row}
		}
		next := api.Version{ID: 5 + n}
		added := Journal{Tag: 1, Name: "a", Vers: append(rising(5, n), next)}

		j := made()
		first, _ := Add(j, next)
		second, _ := Add(j, next)
		spoil(first.Vers)
		if !equal(j, made()) || !equal(second, added) {
			t.Errorf("%d versions: what Add answers is shared", n)
		}
		spoil(j.Vers)
		if !equal(second, added) {
			t.Errorf("%d versions: Add keeps what it was handed", n)
		}

		for i := range n {
			dropped := Journal{Tag: 1, Name: "a", Vers: slices.Delete(rising(5, n), i, i+1)}
			j := made()
			first, _ := Drop(j, 5+i)
			second, _ := Drop(j, 5+i)
			spoil(first.Vers)
			if !equal(j, made()) || !equal(second, dropped) {
				t.Errorf("%d versions: what Drop of %d answers is shared", n, i)
			}
			spoil(j.Vers)
			if !equal(second, dropped) {
				t.Errorf("%d versions: Drop of %d keeps what it was handed", n, i)
			}
		}
	}
}

func TestBytesAreNotShared(t *testing.T) {
	j := plain()
	want := bytesOf(j)
	first, _ := Encode(j)
	second, _ := Encode(j)
	spoil(j.Vers)
	clear(first[:cap(first)])
	if !bytes.Equal(second, want) {
		t.Error("two answers of Encode share memory, or it keeps what it was handed")
	}
	one, _ := Decode(second)
	two, _ := Decode(second)
	clear(second[:cap(second)])
	spoil(one.Vers)
	if !equal(two, plain()) {
		t.Error("two answers of Decode share memory, or it keeps what it was handed")
	}
}

// TestNothingIsKept: what stands between two like calls changes no answer.
func TestNothingIsKept(t *testing.T) {
	want := bytesOf(plain())
	for _, j := range slices.Concat(goodJournals(), badJournals()) {
		b, _ := Encode(j)
		Decode(b)
		Decode(bytesOf(j))
		Add(j, api.Version{ID: math.MaxInt32})
		Drop(j, 7)
		if got, e := Encode(plain()); e != api.OK || !bytes.Equal(got, want) {
			t.Fatalf("behind %v: Encode = %v, %d", j, got, e)
		}
		if got, e := Decode(want); e != api.OK || !equal(got, plain()) {
			t.Fatalf("behind %v: Decode = %v, %d", j, got, e)
		}
	}
}
