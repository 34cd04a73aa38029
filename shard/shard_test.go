package shard

import (
	"bytes"
	"encoding/binary"
	"hash/crc32"
	"math"
	"math/rand"
	"testing"

	"strongbox/api"
)

// sumOf is the library's sum, written as the chapter says.
func sumOf(b []byte) []byte {
	return binary.LittleEndian.AppendUint32(nil, crc32.Checksum(b, crc32.MakeTable(crc32.Castagnoli)))
}

// headRow writes a head with its sum, whatever it says.
func headRow(k, m, index, eighth byte, block, size, id uint32) []byte {
	b := []byte{'S', 'B', 'X', '1', k, m, index, eighth}
	b = binary.LittleEndian.AppendUint32(b, block)
	b = binary.LittleEndian.AppendUint32(b, size)
	b = binary.LittleEndian.AppendUint32(b, id)
	return append(b, sumOf(b)...)
}

// fileOf follows the words of P5.1 with none of the package's own means.
func fileOf(h Head, data []byte) []byte {
	b := headRow(byte(h.K), byte(h.M), byte(h.Index), 0, uint32(h.Block), uint32(h.Size), uint32(h.ID))
	for at := 0; at < len(data); at += h.Block {
		block := data[at:min(at+h.Block, len(data))]
		b = append(b, block...)
		b = append(b, sumOf(block)...)
	}
	return b
}

// drawn makes a row of n bytes, the same ones for each seed.
func drawn(seed int64, n int) []byte {
	b := make([]byte, n)
	rand.New(rand.NewSource(seed)).Read(b)
	return b
}

// roomy lays a row into a greater one, so that a write into its spare room shows.
func roomy(b []byte) (row, whole []byte) {
	whole = append(bytes.Clone(b), bytes.Repeat([]byte{0xa5}, 64)...)
	return whole[:len(b)], whole
}

// changed answers a copy of b with one byte another one.
func changed(b []byte, at int, by byte) []byte {
	c := bytes.Clone(b)
	c[at] ^= by
	return c
}

// resummed answers a copy of b with the head's sum made right again.
func resummed(b []byte) []byte {
	c := bytes.Clone(b)
	copy(c[20:24], sumOf(c[:20]))
	return c
}

// refused holds Read and Check to one error, and to zero values beside it but the number.
func refused(t *testing.T, what string, b []byte, e api.Errno, number int) {
	t.Helper()
	before := bytes.Clone(b)
	if h, n, got := Check(b); got != e || n != number || h != (Head{}) {
		t.Errorf("%s: Check = %v, %d, %d, want zero, %d, %d", what, h, n, got, number, e)
	}
	if h, data, got := Read(b); got != e || len(data) != 0 || h != (Head{}) {
		t.Errorf("%s: Read = %v, %d bytes, %d, want zero, none, %d", what, h, len(data), got, e)
	}
	if !bytes.Equal(b, before) {
		t.Errorf("%s: the file was changed", what)
	}
}

// readBack holds Read and Check to what a file was made of.
func readBack(t *testing.T, b []byte, h Head, data []byte) {
	t.Helper()
	if got, n, e := Check(b); got != h || n != 0 || e != api.OK {
		t.Errorf("%v: Check = %v, %d, %d", h, got, n, e)
	}
	if got, d, e := Read(b); got != h || !bytes.Equal(d, data) || e != api.OK {
		t.Errorf("%v: Read = %v, %d bytes, %d", h, got, len(d), e)
	}
}

// plain is a head with which nothing is wrong; each number in it is another one, so that none can stand for another.
func plain(size int) Head {
	return Head{K: 5, M: 3, Index: 6, Block: 16, Size: size, ID: 0x01020304}
}

// threeBlocks is a file of blocks of 16, 16 and 7 bytes.
func threeBlocks() (Head, []byte, []byte) {
	h, data := plain(39), drawn(1, 39)
	return h, data, fileOf(h, data)
}

// blockAt tells where a block of threeBlocks begins.
func blockAt(number int) int { return 24 + 20*number }

// heads that may be and that may not be

func goodHeads() []Head {
	return []Head{
		plain(0),
		{K: 1, M: 1, Index: 0, Block: api.MinBlock, Size: 0, ID: 0},
		{K: 1, M: 1, Index: 1, Block: 16, Size: 1, ID: 0},
		{K: 1, M: 254, Index: 254, Block: 16, Size: 1, ID: 1},
		{K: 254, M: 1, Index: 254, Block: 16, Size: 1, ID: 1},
		{K: 127, M: 128, Index: 0, Block: 16, Size: 1, ID: 1},
		{K: 4, M: 2, Index: 5, Block: api.MaxBlock, Size: 4097, ID: 7},
		{K: 4, M: 2, Index: 4, Block: api.MinBlock, Size: api.MaxObject, ID: 7},
		{K: 4, M: 2, Index: 3, Block: api.MaxBlock, Size: api.MaxObject, ID: 7},
		{K: 4, M: 2, Index: 2, Block: 4095, Size: api.MaxObject - 1, ID: math.MaxInt32 - 1},
		{K: 4, M: 2, Index: 1, Block: 17, Size: 17, ID: math.MaxInt32},
	}
}

func badHeads() []Head {
	bad := []Head{{}}
	put := func(change func(h *Head, x int), xs ...int) {
		for _, x := range append(xs, math.MinInt, math.MinInt+1, math.MaxInt, math.MaxInt-1, -1, -256, math.MinInt32) {
			h := plain(17)
			change(&h, x)
			bad = append(bad, h)
		}
	}
	put(func(h *Head, x int) { h.K = x }, 0, 253, 254, 255, 256, 261, 1<<32+5)
	put(func(h *Head, x int) { h.M = x }, 0, 251, 254, 255, 256, 259, 1<<32+3)
	put(func(h *Head, x int) { h.K, h.M = x, x }, 0, 128, 255, 256, math.MaxInt/2+1)
	put(func(h *Head, x int) { h.K, h.M = x, math.MinInt }, 0)
	put(func(h *Head, x int) { h.K, h.M = math.MaxInt, x }, 2, 3, 8)
	put(func(h *Head, x int) { h.Index = x }, 8, 9, 255, 256, 1<<32+6)
	put(func(h *Head, x int) { h.Block = x }, 0, 1, 15, 4097, 8192, 1<<32+16)
	put(func(h *Head, x int) { h.Size = x }, api.MaxObject+1, 1<<32+17)
	put(func(h *Head, x int) { h.ID = x }, 1<<31, 1<<32-1, 1<<32, 1<<32+1)
	return bad
}

func TestMay(t *testing.T) {
	for _, h := range goodHeads() {
		if !May(h) {
			t.Errorf("May(%v) = false", h)
		}
	}
	for _, h := range badHeads() {
		if May(h) {
			t.Errorf("May(%v) = true", h)
		}
	}
}

// P5.1

func TestExample(t *testing.T) {
	h := Head{K: 1, M: 1, Index: 0, Block: 16, Size: 17, ID: 0}
	data := []byte("0123456789abcdefX")
	b, e := Write(h, data)
	if e != api.OK || len(b) != 24+16+4+1+4 {
		t.Fatalf("Write = %d bytes, %d", len(b), e)
	}
	want := []byte{'S', 'B', 'X', '1', 1, 1, 0, 0, 16, 0, 0, 0, 17, 0, 0, 0, 0, 0, 0, 0}
	if !bytes.Equal(b[:20], want) {
		t.Errorf("head %v, want %v", b[:20], want)
	}
	if !bytes.Equal(b[20:24], sumOf(want)) {
		t.Errorf("the head's sum is %v", b[20:24])
	}
	if string(b[24:40]) != "0123456789abcdef" || !bytes.Equal(b[40:44], sumOf(data[:16])) {
		t.Errorf("first block %v", b[24:44])
	}
	if string(b[44:45]) != "X" || !bytes.Equal(b[45:], sumOf(data[16:])) {
		t.Errorf("second block %v", b[44:])
	}
	readBack(t, b, h, data)
}

// TestHeadBytes writes a head out, each number with bytes that are unlike one another.
func TestHeadBytes(t *testing.T) {
	h := Head{K: 0x21, M: 0x43, Index: 0x56, Block: 0x0987, Size: 0xa1b2, ID: 0x7c3d4e5f}
	b, e := Write(h, make([]byte, h.Size))
	want := []byte{'S', 'B', 'X', '1', 0x21, 0x43, 0x56, 0, 0x87, 0x09, 0, 0, 0xb2, 0xa1, 0, 0, 0x5f, 0x4e, 0x3d, 0x7c}
	if e != api.OK || !bytes.Equal(b[:20], want) {
		t.Errorf("%x, %d, want %x", b[:min(20, len(b))], e, want)
	}
}

func TestWriteHeads(t *testing.T) {
	for i, h := range goodHeads() {
		data := drawn(int64(i), h.Size)
		b, e := Write(h, data)
		if e != api.OK || !bytes.Equal(b, fileOf(h, data)) {
			t.Errorf("Write(%v) = %d bytes, %d", h, len(b), e)
		}
		readBack(t, b, h, data)
	}
	for _, h := range badHeads() {
		data := make([]byte, max(0, min(h.Size, api.MaxObject+1)))
		if b, e := Write(h, data); len(b) != 0 || e != api.ErrArg {
			t.Errorf("Write(%v) = %d bytes, %d", h, len(b), e)
		}
	}
}

func TestWriteSizes(t *testing.T) {
	for _, block := range []int{16, 17, 100, 4095, 4096} {
		for _, size := range []int{0, 1, 15, 16, 17, block - 1, block, block + 1, 2*block - 1, 2 * block, 2*block + 1, 7*block + 3} {
			h, data := plain(size), drawn(int64(size), size)
			h.Block = block
			b, e := Write(h, data)
			if e != api.OK || !bytes.Equal(b, fileOf(h, data)) {
				t.Errorf("block %d, size %d: %d bytes, %d", block, size, len(b), e)
			}
			readBack(t, b, h, data)
		}
	}
	h := plain(0)
	if b, e := Write(h, nil); e != api.OK || len(b) != 24 {
		t.Errorf("no data: %d bytes, %d", len(b), e)
	}
	if b, e := Write(h, []byte{}); e != api.OK || len(b) != 24 {
		t.Errorf("empty data: %d bytes, %d", len(b), e)
	}
}

func TestWriteOtherSize(t *testing.T) {
	for _, size := range []int{0, 1, 15, 16, 17, 32, api.MaxObject} {
		for _, n := range []int{0, size - 1, size + 1, size + 16, 2*size + 1} {
			if n < 0 || n == size {
				continue
			}
			if b, e := Write(plain(size), make([]byte, n)); len(b) != 0 || e != api.ErrArg {
				t.Errorf("size %d, %d bytes: %d bytes, %d", size, n, len(b), e)
			}
		}
	}
}

// P5.2

func TestCut(t *testing.T) {
	for _, size := range []int{0, 1, 16, 17, 32, 39} {
		h := plain(size)
		b := fileOf(h, drawn(2, size))
		for n := range len(b) {
			refused(t, "cut", b[:n], api.ErrShort, 0)
		}
	}
	refused(t, "nil", nil, api.ErrShort, 0)
}

func TestBytesBehind(t *testing.T) {
	for _, size := range []int{0, 1, 16, 17, 32, 39} {
		b := fileOf(plain(size), drawn(3, size))
		for _, n := range []int{1, 4, 5, 20, 24, 100} {
			refused(t, "zeros behind", append(bytes.Clone(b), make([]byte, n)...), api.ErrForm, 0)
		}
		refused(t, "itself behind", append(bytes.Clone(b), b...), api.ErrForm, 0)
		block := drawn(4, 16)
		more := append(append(bytes.Clone(b), block...), sumOf(block)...)
		refused(t, "a good block behind", more, api.ErrForm, 0)
	}
}

func TestLong(t *testing.T) {
	_, _, b := threeBlocks()
	atLimit := append(bytes.Clone(b), make([]byte, api.MaxShard-len(b))...)
	refused(t, "as long as may be", atLimit, api.ErrForm, 0)
	refused(t, "one longer", append(atLimit, 0), api.ErrLong, 0)
	refused(t, "zeros", make([]byte, api.MaxShard), api.ErrForm, 0)
	refused(t, "more zeros", make([]byte, api.MaxShard+1), api.ErrLong, 0)
	refused(t, "far longer", make([]byte, 1<<20), api.ErrLong, 0)
}

// TestEachByteChanged changes each byte of a file in each way, without mending a sum.
func TestEachByteChanged(t *testing.T) {
	_, _, b := threeBlocks()
	for at := range b {
		e, number := api.ErrSum, (at-24)/20
		if at < 4 {
			e, number = api.ErrForm, 0
		} else if at < 24 {
			number = -1
		}
		for by := 1; by < 256; by++ {
			refused(t, "changed", changed(b, at, byte(by)), e, number)
		}
	}
}

// TestShortChanges rots 32 bits in a row at each place, bits told lowest of each byte first.
func TestShortChanges(t *testing.T) {
	_, _, b := threeBlocks()
	r := rand.New(rand.NewSource(5))
	for place := 8 * 4; place+32 <= 8*len(b); place++ {
		first, last := place/8, (place+31)/8
		if (first < 24) != (last < 24) || (first-24)/20 != (last-24)/20 {
			continue
		}
		bits := uint64(r.Uint32()|1) << (place % 8)
		c := bytes.Clone(b)
		for i := first; i <= last; i++ {
			c[i] ^= byte(bits >> (8 * (i - first)))
		}
		number := -1
		if first >= 24 {
			number = (first - 24) / 20
		}
		refused(t, "rot", c, api.ErrSum, number)
	}
}

// TestHeadsInFiles hands Read heads that may be and may not be, each with its right sum and no data behind it.
func TestHeadsInFiles(t *testing.T) {
	for _, h := range []Head{
		{K: 1, M: 1, Index: 0, Block: 16, ID: 0}, {K: 1, M: 1, Index: 1, Block: 4096, ID: 0},
		{K: 1, M: 254, Index: 254, Block: 16, ID: math.MaxInt32}, {K: 254, M: 1, Index: 0, Block: 17, ID: 1},
	} {
		readBack(t, fileOf(h, nil), h, nil)
	}
	for _, c := range []struct {
		what string
		row  []byte
	}{
		{"K 0", headRow(0, 3, 1, 0, 16, 0, 0)},
		{"M 0", headRow(3, 0, 1, 0, 16, 0, 0)},
		{"K and M 0", headRow(0, 0, 0, 0, 16, 0, 0)},
		{"256 together", headRow(255, 1, 0, 0, 16, 0, 0)},
		{"256 together, the other way", headRow(1, 255, 0, 0, 16, 0, 0)},
		{"510 together", headRow(255, 255, 0, 0, 16, 0, 0)},
		{"Index as many as both", headRow(5, 3, 8, 0, 16, 0, 0)},
		{"Index 255", headRow(254, 1, 255, 0, 16, 0, 0)},
		{"eighth byte 1", headRow(5, 3, 6, 1, 16, 0, 0)},
		{"eighth byte 128", headRow(5, 3, 6, 128, 16, 0, 0)},
		{"eighth byte 255", headRow(5, 3, 6, 255, 16, 0, 0)},
		{"Block 0", headRow(5, 3, 6, 0, 0, 0, 0)},
		{"Block 15", headRow(5, 3, 6, 0, 15, 0, 0)},
		{"Block 4097", headRow(5, 3, 6, 0, 4097, 0, 0)},
		{"Block 2^16 + 16", headRow(5, 3, 6, 0, 1<<16+16, 0, 0)},
		{"Block 2^24 + 16", headRow(5, 3, 6, 0, 1<<24+16, 0, 0)},
		{"Block 2^32 - 1", headRow(5, 3, 6, 0, math.MaxUint32, 0, 0)},
		{"Size MaxObject + 1", headRow(5, 3, 6, 0, 16, api.MaxObject+1, 0)},
		{"Size 2^24", headRow(5, 3, 6, 0, 16, 1<<24, 0)},
		{"Size 2^31", headRow(5, 3, 6, 0, 16, 1<<31, 0)},
		{"Size 2^32 - 1", headRow(5, 3, 6, 0, 16, math.MaxUint32, 0)},
		{"ID 2^31", headRow(5, 3, 6, 0, 16, 0, 1<<31)},
		{"ID 2^32 - 1", headRow(5, 3, 6, 0, 16, 0, math.MaxUint32)},
	} {
		refused(t, c.what, c.row, api.ErrForm, 0)
	}
	refused(t, "Size MaxObject", headRow(5, 3, 6, 0, 16, api.MaxObject, 0), api.ErrShort, 0)
}

// TestFirstFault lays two faults into one file, so that the order shows.
func TestFirstFault(t *testing.T) {
	_, _, b := threeBlocks()
	long := func(b []byte) []byte { return append(bytes.Clone(b), make([]byte, api.MaxShard)...) }
	behind := func(b []byte) []byte { return append(bytes.Clone(b), 0) }
	begin, headSum := changed(b, 0, 1), changed(b, 21, 1)
	form, noBlock := resummed(changed(b, 7, 1)), resummed(changed(b, 8, 31))
	first, second := changed(b, blockAt(0), 1), changed(b, blockAt(1)+17, 1)
	for _, c := range []struct {
		what   string
		file   []byte
		e      api.Errno
		number int
	}{
		{"long, beginning", long(begin), api.ErrLong, 0},
		{"long, head's sum", long(headSum), api.ErrLong, 0},
		{"long, block's sum", long(first), api.ErrLong, 0},
		{"fewer than 24, beginning", begin[:23], api.ErrShort, 0},
		{"fewer than 24, head's sum", headSum[:23], api.ErrShort, 0},
		{"three bytes, beginning", begin[:3], api.ErrShort, 0},
		{"beginning, cut", begin[:24], api.ErrForm, 0},
		{"beginning, head's sum", changed(begin, 21, 1), api.ErrForm, 0},
		{"beginning, block's sum", changed(begin, 30, 1), api.ErrForm, 0},
		{"beginning, with its right sum", resummed(begin), api.ErrForm, 0},
		{"head's sum, eighth byte", changed(headSum, 7, 1), api.ErrSum, -1},
		{"head's sum, Block", changed(headSum, 8, 31), api.ErrSum, -1},
		{"head's sum, cut", headSum[:24], api.ErrSum, -1},
		{"head's sum, block's sum", changed(headSum, 30, 1), api.ErrSum, -1},
		{"head's sum, behind", behind(headSum), api.ErrSum, -1},
		{"form, cut", form[:24], api.ErrForm, 0},
		{"form, block's sum", changed(form, 30, 1), api.ErrForm, 0},
		{"Block, cut", noBlock[:30], api.ErrForm, 0},
		{"first block's sum, its last byte missing", first[:blockAt(1)-1], api.ErrShort, 0},
		{"first block's sum, cut behind it", first[:blockAt(1)], api.ErrSum, 0},
		{"first block's sum, cut in the second", first[:blockAt(1)+3], api.ErrSum, 0},
		{"first block's sum, second block's", changed(first, blockAt(1), 1), api.ErrSum, 0},
		{"first block's sum, behind", behind(first), api.ErrSum, 0},
		{"second block's sum, third block's", changed(second, blockAt(2), 1), api.ErrSum, 1},
		{"second block's sum, the third missing", second[:blockAt(2)], api.ErrSum, 1},
		{"second block's sum, behind", behind(second), api.ErrSum, 1},
		{"third block's sum, behind", behind(changed(b, blockAt(2), 1)), api.ErrSum, 2},
	} {
		refused(t, c.what, c.file, c.e, c.number)
	}
}

// TestManyBlocks finds a fault in the last of as many blocks as there may be.
func TestManyBlocks(t *testing.T) {
	h := plain(api.MaxObject)
	b := fileOf(h, drawn(6, h.Size))
	refused(t, "the last block", changed(b, len(b)-5, 1), api.ErrSum, 4095)
	refused(t, "the last sum", changed(b, len(b)-1, 128), api.ErrSum, 4095)
	refused(t, "its last byte", b[:len(b)-1], api.ErrShort, 0)
}

// TestBlocksInOtherOrder: a block's sum is of it alone, so that blocks may change places unseen.
func TestBlocksInOtherOrder(t *testing.T) {
	h, data, b := threeBlocks()
	swapped := bytes.Clone(b)
	copy(swapped[blockAt(0):], b[blockAt(1):blockAt(2)])
	copy(swapped[blockAt(1):], b[blockAt(0):blockAt(1)])
	readBack(t, swapped, h, bytes.Join([][]byte{data[16:32], data[:16], data[32:]}, nil))
}

// TestAnyBytes hands in drawn files: nothing panics, and the two ways to read agree.
func TestAnyBytes(t *testing.T) {
	r := rand.New(rand.NewSource(7))
	_, _, good := threeBlocks()
	for range 20000 {
		b := bytes.Clone(good[:r.Intn(len(good)+1)])
		for range r.Intn(4) {
			if len(b) > 0 {
				b[r.Intn(len(b))] = byte(r.Intn(256))
			}
		}
		if len(b) >= 24 && r.Intn(2) == 0 {
			b = resummed(b)
		}
		h, number, e := Check(b)
		g, data, f := Read(b)
		if e != f || h != g || e == api.OK && (number != 0 || len(data) != h.Size) || e != api.OK && (len(data) != 0 || h != Head{}) {
			t.Fatalf("%x: %v %d %d, %v %d %d", b, h, number, e, g, len(data), f)
		}
	}
}

// P5.3

func TestWriterPieces(t *testing.T) {
	for _, size := range []int{0, 1, 15, 16, 17, 31, 32, 33, 39, 100} {
		h, data := plain(size), drawn(8, size)
		want := fileOf(h, data)
		for piece := 1; piece <= size+1; piece++ {
			w := NewWriter(h)
			for at := 0; at < size; at += piece {
				if e := w.Add(data[at:min(at+piece, size)]); e != api.OK {
					t.Fatalf("size %d, pieces of %d: %d", size, piece, e)
				}
			}
			if b, e := w.End(); e != api.OK || !bytes.Equal(b, want) {
				t.Errorf("size %d, pieces of %d: %x, %d", size, piece, b, e)
			}
		}
	}
}

func TestWriterDrawnPieces(t *testing.T) {
	r := rand.New(rand.NewSource(9))
	for _, h := range goodHeads() {
		data := drawn(10, h.Size)
		w := NewWriter(h)
		for rest := data; len(rest) > 0; {
			n := min(len(rest), r.Intn(3*h.Block))
			if e := w.Add(rest[:n]); e != api.OK {
				t.Fatalf("%v: %d", h, e)
			}
			rest = rest[n:]
		}
		if b, e := w.End(); e != api.OK || !bytes.Equal(b, fileOf(h, data)) {
			t.Errorf("%v: %d bytes, %d", h, len(b), e)
		}
	}
}

func TestWriterNothing(t *testing.T) {
	h, data := plain(17), drawn(11, 17)
	w := NewWriter(h)
	for i := range data {
		for _, none := range [][]byte{nil, {}} {
			if e := w.Add(none); e != api.OK {
				t.Errorf("nothing ahead of byte %d: %d", i, e)
			}
		}
		w.Add(data[i : i+1])
	}
	if e := w.Add(nil); e != api.OK {
		t.Errorf("nothing behind all: %d", e)
	}
	if b, e := w.End(); e != api.OK || !bytes.Equal(b, fileOf(h, data)) {
		t.Errorf("%x, %d", b, e)
	}
	empty := NewWriter(plain(0))
	if e := empty.Add(nil); e != api.OK {
		t.Errorf("nothing of nothing: %d", e)
	}
	if e := empty.Add([]byte{1}); e != api.ErrLong {
		t.Errorf("one byte of nothing: %d", e)
	}
	if b, e := empty.End(); e != api.OK || !bytes.Equal(b, fileOf(plain(0), nil)) {
		t.Errorf("no data: %x, %d", b, e)
	}
}

// TestWriterTooMuch: a piece that is refused leaves all as it was.
func TestWriterTooMuch(t *testing.T) {
	h, data := plain(33), drawn(12, 33)
	for taken := 0; taken <= 33; taken++ {
		w := NewWriter(h)
		w.Add(data[:taken])
		for _, n := range []int{34 - taken, 50, 1000} {
			if e := w.Add(make([]byte, n)); e != api.ErrLong {
				t.Errorf("%d taken, %d more: %d", taken, n, e)
			}
		}
		if e := w.Add(data[taken:]); e != api.OK {
			t.Errorf("%d taken, the rest: %d", taken, e)
		}
		if e := w.Add([]byte{1}); e != api.ErrLong {
			t.Errorf("one past all: %d", e)
		}
		if b, e := w.End(); e != api.OK || !bytes.Equal(b, fileOf(h, data)) {
			t.Errorf("%d taken: %x, %d", taken, b, e)
		}
	}
}

// TestWriterTooLittle: an End that is refused ends nothing.
func TestWriterTooLittle(t *testing.T) {
	h, data := plain(33), drawn(13, 33)
	w := NewWriter(h)
	for i := range data {
		for range 2 {
			if b, e := w.End(); len(b) != 0 || e != api.ErrShort {
				t.Errorf("End behind %d bytes: %d bytes, %d", i, len(b), e)
			}
		}
		if e := w.Add(data[i : i+1]); e != api.OK {
			t.Errorf("byte %d: %d", i, e)
		}
	}
	if b, e := w.End(); e != api.OK || !bytes.Equal(b, fileOf(h, data)) {
		t.Errorf("%x, %d", b, e)
	}
}

// allRefused holds a Writer to ErrArg, whatever it is asked.
func allRefused(t *testing.T, what string, w *Writer) {
	t.Helper()
	for range 2 {
		for _, piece := range [][]byte{nil, {}, {1}, make([]byte, 17), make([]byte, api.MaxObject+1)} {
			if e := w.Add(piece); e != api.ErrArg {
				t.Errorf("%s: Add of %d bytes: %d", what, len(piece), e)
			}
		}
		if b, e := w.End(); len(b) != 0 || e != api.ErrArg {
			t.Errorf("%s: End: %d bytes, %d", what, len(b), e)
		}
	}
}

func TestWriterBehindEnd(t *testing.T) {
	for _, size := range []int{0, 1, 16, 17} {
		w := NewWriter(plain(size))
		w.Add(make([]byte, size))
		if _, e := w.End(); e != api.OK {
			t.Fatalf("size %d: %d", size, e)
		}
		allRefused(t, "behind End", w)
	}
}

func TestWriterOfNoHead(t *testing.T) {
	for _, h := range badHeads() {
		allRefused(t, "a head that may not be", NewWriter(h))
	}
	allRefused(t, "nil", nil)
	allRefused(t, "a Writer that NewWriter did not make", &Writer{})
}

// Rules: nothing that is handed in is changed, kept or shared

func TestWriteLeavesData(t *testing.T) {
	h, want, _ := threeBlocks()
	data, whole := roomy(want)
	before := bytes.Clone(whole)
	b, _ := Write(h, data)
	again, _ := Write(h, data)
	if !bytes.Equal(whole, before) {
		t.Error("Write changed its data")
	}
	spoil(b)
	if !bytes.Equal(whole, before) || !bytes.Equal(again, fileOf(h, want)) {
		t.Error("a file shares memory with its data or with another one")
	}
}

func TestReadLeavesFile(t *testing.T) {
	_, want, file := threeBlocks()
	b, whole := roomy(file)
	before := bytes.Clone(whole)
	_, data, _ := Read(b)
	_, again, _ := Read(b)
	Check(b)
	if !bytes.Equal(whole, before) {
		t.Error("Read or Check changed the file")
	}
	spoil(data)
	if !bytes.Equal(whole, before) || !bytes.Equal(again, want) {
		t.Error("data shares memory with its file or with other data")
	}
	spoil(b)
	if !bytes.Equal(again, want) {
		t.Error("data shares memory with its file")
	}
}

func TestWriterKeepsNothing(t *testing.T) {
	h, want, file := threeBlocks()
	w, other := NewWriter(h), NewWriter(h)
	for at := 0; at < len(want); at += 13 {
		piece, whole := roomy(want[at : at+13])
		before := bytes.Clone(whole)
		if e := w.Add(piece); e != api.OK || !bytes.Equal(whole, before) {
			t.Errorf("Add at %d: %d, or the piece was changed", at, e)
		}
		spoil(piece)
		other.Add(want[at : at+13])
	}
	b, e := w.End()
	if e != api.OK || !bytes.Equal(b, file) {
		t.Errorf("%x, %d", b, e)
	}
	spoil(b)
	if b, e := other.End(); e != api.OK || !bytes.Equal(b, file) {
		t.Errorf("another Writer: %x, %d", b, e)
	}
}

// spoil writes over a list, its spare room included.
func spoil(b []byte) {
	b = b[:cap(b)]
	for i := range b {
		b[i] = ^b[i]
	}
}
