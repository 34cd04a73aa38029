package stripe

import (
	"bytes"
	"fmt"
	"math"
	"math/rand"
	"slices"
	"testing"

	"strongbox/api"
)

// filled is n bytes of which none is nought, so that a nought among rows is one of those at the end.
func filled(n int) []byte {
	source := rand.New(rand.NewSource(int64(n)))
	b := make([]byte, n)
	for i := range b {
		b[i] = byte(1 + source.Intn(255))
	}
	return b
}

// counted is the bytes 1, 2 and so on.
func counted(n int) []byte {
	b := make([]byte, n)
	for i := range b {
		b[i] = byte(i + 1)
	}
	return b
}

// place is in which row the byte i of size lies, and where there, by the words of P11.1 for one byte.
func place(i, size, k, block int) (row, at int) {
	stripe := i / (k * block)
	inStripe := i % (k * block)
	if whole := size / (k * block); stripe < whole {
		return inStripe / block, stripe*block + inStripe%block
	}
	each := size % (k * block) / k
	if size%(k*block)%k > 0 { // upwards
		each++
	}
	return inStripe / each, stripe*block + inStripe%each
}

// longest is how long the rows are, as the places of bytes tell: in each stripe no row has more than the first one.
func longest(size, k, block int) int {
	length := 0
	for i := range size {
		if row, at := place(i, size, k, block); row == 0 {
			length = max(length, at+1)
		}
	}
	return length
}

// laid is the rows, byte by byte.
func laid(data []byte, k, block int) [][]byte {
	rows := make([][]byte, k)
	length := longest(len(data), k, block)
	for i := range rows {
		rows[i] = make([]byte, length)
	}
	for i, b := range data {
		row, at := place(i, len(data), k, block)
		rows[row][at] = b
	}
	return rows
}

// cut is Split where it must not refuse.
func cut(t *testing.T, data []byte, k, block int) [][]byte {
	t.Helper()
	rows, ok := Split(data, k, block)
	if !ok {
		t.Fatalf("Split of %d bytes, %d, %d: refused", len(data), k, block)
	}
	return rows
}

// equal holds rows against each other.
func equal(a, b [][]byte) bool { return slices.EqualFunc(a, b, bytes.Equal) }

// copies are rows of their own.
func copies(rows [][]byte) [][]byte {
	var l [][]byte
	for _, row := range rows {
		l = append(l, slices.Clone(row))
	}
	return l
}

// like is k rows of that length, all noughts.
func like(k, length int) [][]byte {
	rows := make([][]byte, k)
	for i := range rows {
		rows[i] = make([]byte, length)
	}
	return rows
}

// checkLife cuts and joins again, and holds the rows against those laid byte by byte.
func checkLife(t *testing.T, data []byte, k, block int) {
	t.Helper()
	rows := cut(t, data, k, block)
	what := fmt.Sprintf("%d bytes, %d, %d", len(data), k, block)
	if want := laid(data, k, block); !equal(rows, want) {
		t.Fatalf("%s: not the rows of the chapter", what)
	}
	length := Length(len(data), k, block)
	for i, row := range rows {
		if len(row) != length || row == nil {
			t.Fatalf("%s: row %d: %d bytes (nil: %v), Length %d", what, i, len(row), row == nil, length)
		}
	}
	if back, ok := Join(rows, len(data), block); !ok || !bytes.Equal(back, data) {
		t.Fatalf("%s: joined it is not the data (%v)", what, ok)
	}
}

func TestExample(t *testing.T) {
	rows, ok := Split([]byte{1, 2, 3, 4, 5}, 2, 1)
	if want := [][]byte{{1, 3, 5}, {2, 4, 0}}; !ok || !equal(rows, want) {
		t.Errorf("%v, %v; want %v", rows, ok, want)
	}
	data, ok := Join(rows, 5, 1)
	if want := []byte{1, 2, 3, 4, 5}; !ok || !bytes.Equal(data, want) {
		t.Errorf("%v, %v; want %v", data, ok, want)
	}
}

func TestRowsByHand(t *testing.T) {
	for _, x := range []struct {
		what           string
		size, k, block int
		want           [][]byte
	}{
		{"nothing", 0, 3, 2, [][]byte{{}, {}, {}}},
		{"nothing, one row", 0, 1, 1, [][]byte{{}}},
		{"one row", 5, 1, 2, [][]byte{{1, 2, 3, 4, 5}}},
		{"one whole stripe", 6, 3, 2, [][]byte{{1, 2}, {3, 4}, {5, 6}}},
		{"one byte less", 5, 3, 2, [][]byte{{1, 2}, {3, 4}, {5, 0}}},
		{"one byte more", 7, 3, 2, [][]byte{{1, 2, 7}, {3, 4, 0}, {5, 6, 0}}},
		{"two whole stripes", 12, 3, 2, [][]byte{{1, 2, 7, 8}, {3, 4, 9, 10}, {5, 6, 11, 12}}},
		{"of two one byte less", 11, 3, 2, [][]byte{{1, 2, 7, 8}, {3, 4, 9, 10}, {5, 6, 11, 0}}},
		{"of two one byte more", 13, 3, 2, [][]byte{{1, 2, 7, 8, 13}, {3, 4, 9, 10, 0}, {5, 6, 11, 12, 0}}},
		{"less than a stripe, divided", 6, 3, 9, [][]byte{{1, 2}, {3, 4}, {5, 6}}},
		{"less than a stripe, not divided", 7, 3, 9, [][]byte{{1, 2, 3}, {4, 5, 6}, {7, 0, 0}}},
		{"less than a stripe, not divided, one short", 8, 3, 9, [][]byte{{1, 2, 3}, {4, 5, 6}, {7, 8, 0}}},
		{"fewer bytes than rows", 2, 4, 3, [][]byte{{1}, {2}, {0}, {0}}},
		{"one byte", 1, 4, 3, [][]byte{{1}, {0}, {0}, {0}}},
		{"as many bytes as rows", 4, 4, 3, [][]byte{{1}, {2}, {3}, {4}}},
		{"one byte more than rows", 5, 4, 3, [][]byte{{1, 2}, {3, 4}, {5, 0}, {0, 0}}},
		{"the last row all noughts", 9, 4, 5, [][]byte{{1, 2, 3}, {4, 5, 6}, {7, 8, 9}, {0, 0, 0}}},
		{"behind a stripe, divided", 12, 2, 4, [][]byte{{1, 2, 3, 4, 9, 10}, {5, 6, 7, 8, 11, 12}}},
		{"behind a stripe, not divided", 11, 2, 4, [][]byte{{1, 2, 3, 4, 9, 10}, {5, 6, 7, 8, 11, 0}}},
		{"behind a stripe, the last row noughts", 10, 3, 2, [][]byte{{1, 2, 7, 8}, {3, 4, 9, 10}, {5, 6, 0, 0}}},
		{"blocks of one", 7, 3, 1, [][]byte{{1, 4, 7}, {2, 5, 0}, {3, 6, 0}}},
	} {
		data := counted(x.size)
		rows := cut(t, data, x.k, x.block)
		if !equal(rows, x.want) {
			t.Errorf("%s: %v, want %v", x.what, rows, x.want)
		}
		if n := Length(x.size, x.k, x.block); n != len(x.want[0]) {
			t.Errorf("%s: Length %d, want %d", x.what, n, len(x.want[0]))
		}
		back, ok := Join(x.want, x.size, x.block)
		if !ok || !bytes.Equal(back, data) {
			t.Errorf("%s: joined %v, %v; want %v", x.what, back, ok, data)
		}
	}
}

func TestEverySizeOfSmallShapes(t *testing.T) {
	for k := 1; k <= 6; k++ {
		for block := 1; block <= 6; block++ {
			for size := range 4*k*block + 2 {
				checkLife(t, filled(size), k, block)
			}
		}
	}
}

func TestShapesAtTheLimits(t *testing.T) {
	for _, k := range []int{1, 2, 3, 127, 128, 254, api.MaxShards} {
		for _, block := range []int{1, 2, api.MinBlock, 17, api.MaxBlock - 1, api.MaxBlock} {
			whole := k * block
			for _, size := range []int{0, 1, 2, k - 1, k, k + 1, whole - 1, whole, whole + 1, 2*whole - 1, 2 * whole, 2*whole + k + 1, api.MaxObject - 1, api.MaxObject} {
				if size <= api.MaxObject {
					checkLife(t, filled(size), k, block)
				}
			}
		}
	}
}

func TestDrawnShapes(t *testing.T) {
	source := rand.New(rand.NewSource(11))
	for range 400 {
		k, block := 1+source.Intn(api.MaxShards), 1+source.Intn(api.MaxBlock)
		if source.Intn(2) == 0 {
			block = 1 + source.Intn(40)
		}
		checkLife(t, filled(source.Intn(api.MaxObject+1)), k, block)
	}
}

// Noughts of the data are bytes as others are.
func TestEveryByte(t *testing.T) {
	data := make([]byte, 600)
	for i := range data {
		data[i] = byte(i * 7)
	}
	for _, b := range [][]byte{data, make([]byte, 600), bytes.Repeat([]byte{0xFF}, 599)} {
		for _, k := range []int{1, 4, 7} {
			checkLife(t, b, k, 5)
		}
	}
}

func TestLengths(t *testing.T) {
	for _, x := range [][4]int{
		{0, 1, 1, 0}, {0, api.MaxShards, api.MaxBlock, 0}, {1, 1, 1, 1}, {1, api.MaxShards, 1, 1}, {1, 1, api.MaxBlock, 1},
		{10, 3, 2, 4}, {5, 2, 1, 3}, {5, 2, 4, 3}, {16, 2, 4, 8}, {15, 2, 4, 8}, {17, 2, 4, 9}, {18, 2, 4, 9}, {19, 2, 4, 10},
		{api.MaxObject, 1, 1, api.MaxObject}, {api.MaxObject, 1, api.MaxBlock, api.MaxObject}, {api.MaxObject, 2, api.MaxBlock, api.MaxObject / 2},
		{api.MaxObject, api.MaxShards, 1, 258}, {api.MaxObject, api.MaxShards, api.MaxBlock, 258}, {api.MaxObject, api.MaxShards, 256, 258},
		{api.MaxObject, 3, api.MaxBlock, 5*api.MaxBlock + 1366}, {api.MaxObject - 1, 1, 7, api.MaxObject - 1},
	} {
		if n := Length(x[0], x[1], x[2]); n != x[3] {
			t.Errorf("Length(%d, %d, %d): %d, want %d", x[0], x[1], x[2], n, x[3])
		}
	}
}

// ends are numbers that none of k, block and size may be.
var ends = []int{math.MinInt, math.MinInt + 1, -1 << 62, -1<<32 - 1, -1 << 32, -1 << 31, -api.MaxObject, -256, -2, -1, api.MaxObject + 1, 1<<31 - 1, 1 << 31, 1 << 32, 1<<32 + 1, 1 << 33, 1 << 62, math.MaxInt - 1, math.MaxInt}

func TestLengthRefuses(t *testing.T) {
	wrongK := append([]int{0, api.MaxShards + 1, api.MaxBlock}, ends...)
	wrongBlock := append([]int{0, api.MaxBlock + 1}, ends...)
	check := func(size, k, block int) {
		t.Helper()
		if n := Length(size, k, block); n != 0 {
			t.Errorf("Length(%d, %d, %d): %d, want 0", size, k, block, n)
		}
	}
	for _, k := range wrongK {
		check(5, k, 2)
		for _, block := range wrongBlock {
			check(5, k, block)
			for _, size := range ends {
				check(size, k, block)
			}
		}
	}
	for _, block := range wrongBlock {
		check(5, 2, block)
		for _, size := range ends {
			check(size, 2, block)
		}
	}
	for _, size := range ends {
		check(size, 2, 2)
		check(size, api.MaxShards, api.MaxBlock)
	}
}

func TestSplitRefuses(t *testing.T) {
	check := func(size, k, block int) {
		t.Helper()
		if rows, ok := Split(make([]byte, size), k, block); ok || len(rows) != 0 {
			t.Errorf("Split of %d bytes, %d, %d: %d rows, %v", size, k, block, len(rows), ok)
		}
	}
	for _, size := range []int{0, 1, 5, api.MaxObject, api.MaxObject + 1} {
		for _, k := range append([]int{0, api.MaxShards + 1}, ends...) {
			check(size, k, 1)
			check(size, k, api.MaxBlock)
			for _, block := range ends {
				check(size, k, block)
			}
		}
		for _, block := range append([]int{0, api.MaxBlock + 1}, ends...) {
			check(size, 1, block)
			check(size, api.MaxShards, block)
		}
	}
	for _, size := range []int{api.MaxObject + 1, api.MaxObject + 2, 2 * api.MaxObject, 1 << 20} {
		check(size, 1, 1)
		check(size, api.MaxShards, api.MaxBlock)
	}
	if rows, ok := Split(nil, 0, 0); ok || len(rows) != 0 {
		t.Errorf("of nil: %v, %v", rows, ok)
	}
}

func TestSplitOfNil(t *testing.T) {
	for _, k := range []int{1, 2, api.MaxShards} {
		if rows, ok := Split(nil, k, 4); !ok || !equal(rows, like(k, 0)) {
			t.Errorf("%d: %v, %v", k, rows, ok)
		}
	}
}

// refused is Join that must refuse.
func refused(t *testing.T, what string, rows [][]byte, size, block int) {
	t.Helper()
	if data, ok := Join(rows, size, block); ok || len(data) != 0 {
		t.Errorf("%s: Join of %d rows, %d, %d: %d bytes, %v", what, len(rows), size, block, len(data), ok)
	}
}

func TestJoinRefusesNumbers(t *testing.T) {
	for _, k := range []int{1, 2, api.MaxShards} {
		for length := range 4 {
			for _, size := range ends {
				refused(t, "size", like(k, length), size, 1)
				refused(t, "size", like(k, length), size, api.MaxBlock)
			}
			for _, block := range append([]int{0, api.MaxBlock + 1}, ends...) {
				for size := range 4 * k {
					refused(t, "block", like(k, length), size, block)
				}
			}
		}
	}
	refused(t, "MaxObject + 1", like(1, api.MaxObject+1), api.MaxObject+1, 1)
	refused(t, "MaxObject + 1", like(1, api.MaxObject), api.MaxObject+1, 1)
	refused(t, "MaxObject + 1", like(2, api.MaxObject/2+1), api.MaxObject+1, 4)
}

func TestJoinRefusesRows(t *testing.T) {
	for _, size := range []int{-1, 0, 1, 5} {
		refused(t, "nil", nil, size, 1)
		refused(t, "no rows", [][]byte{}, size, 1)
	}
	for size := range 3 {
		for length := range 3 {
			refused(t, "too many", like(api.MaxShards+1, length), size, 1)
			refused(t, "by far too many", like(1<<16, length), size, 1)
		}
	}
	for k := 1; k <= 4; k++ {
		for size := range 4 * k * 3 {
			rows := cut(t, filled(size), k, 3)
			for i, row := range rows {
				longer, shorter, none := copies(rows), copies(rows), copies(rows)
				longer[i] = append(longer[i], 0)
				refused(t, "too long", longer, size, 3)
				if len(row) > 0 {
					shorter[i] = row[:len(row)-1]
					refused(t, "too short", shorter, size, 3)
					none[i] = nil
					refused(t, "nil row", none, size, 3)
				}
			}
		}
	}
	refused(t, "one row is of nothing", [][]byte{{}, {1}}, 1, 1)
	refused(t, "rows change bytes", [][]byte{{1, 2}, {3, 4}, {5}, {6, 7, 8}}, 8, 1)
}

// Rows of one length are joined for just those sizes for which Length says it.
func TestJoinTakesRowsOfTheLengthAlone(t *testing.T) {
	for k := 1; k <= 4; k++ {
		for block := 1; block <= 4; block++ {
			for length := range 10 {
				for size := range 4*k*block + 10 {
					data, ok := Join(like(k, length), size, block)
					fits := length == longest(size, k, block)
					if ok != fits || ok && len(data) != size || !ok && len(data) != 0 {
						t.Fatalf("%d rows of %d, size %d, block %d: %d bytes, %v", k, length, size, block, len(data), ok)
					}
				}
			}
		}
	}
}

func TestJoinOfRowsThatFitMoreThanOneSize(t *testing.T) {
	rows := [][]byte{{1, 3, 5}, {2, 4, 6}}
	for size, want := range map[int]string{4: "[] false", 5: "[1 2 3 4 5] true", 6: "[1 2 3 4 5 6] true", 7: "[] false"} {
		data, ok := Join(rows, size, 1)
		if got := fmt.Sprint(data, ok); got != want {
			t.Errorf("size %d: %s, want %s", size, got, want)
		}
	}
	for block, want := range map[int]string{1: "[1 2 3 4 5] true", 2: "[1 3 2 4 5] true", 3: "[1 3 5 2 4] true", 4: "[1 3 5 2 4] true", api.MaxBlock: "[1 3 5 2 4] true"} {
		data, ok := Join(rows, 5, block)
		if got := fmt.Sprint(data, ok); got != want {
			t.Errorf("block %d: %s, want %s", block, got, want)
		}
	}
}

func TestJoinOfNothing(t *testing.T) {
	for _, k := range []int{1, 2, api.MaxShards} {
		for _, block := range []int{1, api.MaxBlock} {
			for what, rows := range map[string][][]byte{"nil": make([][]byte, k), "of length 0": like(k, 0)} {
				if data, ok := Join(rows, 0, block); !ok || len(data) != 0 {
					t.Errorf("%d rows %s: %v, %v", k, what, data, ok)
				}
				refused(t, what, rows, 1, block)
				refused(t, what, rows, -1, block)
			}
			refused(t, "nought, and rows of one", like(k, 1), 0, block)
		}
	}
}

func TestJoinOfOneRow(t *testing.T) {
	for _, size := range []int{1, 2, api.MaxBlock, api.MaxObject} {
		row := filled(size)
		for _, block := range []int{1, 7, api.MaxBlock} {
			if data, ok := Join([][]byte{row}, size, block); !ok || !bytes.Equal(data, row) {
				t.Errorf("size %d, block %d: %v", size, block, ok)
			}
		}
	}
}

// What stands in the place of noughts says nothing; each other byte is told in its own place.
func TestJoinHangsOnTheDataAlone(t *testing.T) {
	for k := 1; k <= 4; k++ {
		for block := 1; block <= 4; block++ {
			for size := range 3*k*block + 2 {
				data := filled(size)
				rows := cut(t, data, k, block)
				for _, row := range rows {
					for at, b := range row {
						if b == 0 {
							row[at] = 0xA5
						}
					}
				}
				if back, ok := Join(rows, size, block); !ok || !bytes.Equal(back, data) {
					t.Fatalf("%d bytes, %d, %d: with other bytes for noughts %v, %v", size, k, block, back, ok)
				}
				for i := range data {
					row, at := place(i, size, k, block)
					rows[row][at] ^= 0xFF
					data[i] ^= 0xFF
					if back, ok := Join(rows, size, block); !ok || !bytes.Equal(back, data) {
						t.Fatalf("%d bytes, %d, %d: byte %d changed, %v, %v", size, k, block, i, back, ok)
					}
				}
			}
		}
	}
}

// roomy is a list with its spare room.
func roomy[T any](l []T) []T { return l[:cap(l)] }

// scribble writes all over a row, its spare room too.
func scribble(row []byte) {
	for i := range roomy(row) {
		roomy(row)[i] ^= 0xFF
	}
}

// checkApart changes and appends to each row, and tells if another one, or what was handed in, changes with it.
func checkApart(t *testing.T, what string, rows [][]byte, given []byte) {
	t.Helper()
	before := slices.Clone(given)
	for i := range rows {
		others := copies(rows)
		scribble(rows[i])
		rows[i] = append(rows[i], 1, 2, 3)
		scribble(rows[i])
		others[i] = slices.Clone(rows[i])
		if !equal(rows, others) {
			t.Fatalf("%s: row %d shares memory with another", what, i)
		}
		if !bytes.Equal(given, before) {
			t.Fatalf("%s: row %d shares memory with what was handed in", what, i)
		}
	}
}

func TestSplitCopies(t *testing.T) {
	for k := 1; k <= 4; k++ {
		for block := 1; block <= 5; block++ {
			for size := range 3*k*block + 2 {
				what := fmt.Sprintf("%d bytes, %d, %d", size, k, block)
				memory := filled(size + 9)
				before := slices.Clone(memory)
				for range 2 { // what is written into an answer changes no later one
					rows := cut(t, memory[2:2+size], k, block)
					want := laid(before[2:2+size], k, block)
					if !bytes.Equal(memory, before) {
						t.Fatalf("%s: what was handed in is changed", what)
					}
					if !equal(rows, want) {
						t.Fatalf("%s: %v, want %v", what, rows, want)
					}
					checkApart(t, what, rows, memory)
				}
				rows := cut(t, memory[2:2+size], k, block)
				want := copies(rows)
				scribble(memory)
				if !equal(rows, want) {
					t.Fatalf("%s: the rows share memory with the data", what)
				}
			}
		}
	}
}

// spacious is the rows in one memory, each with spare room that reaches into the next, and the list with spare room, too.
func spacious(rows [][]byte) (list [][]byte, memory []byte) {
	for _, row := range rows {
		memory = append(append(memory, row...), 0xA5, 0xA6)
	}
	list = make([][]byte, 0, len(rows)+1)
	from := 0
	for _, row := range rows {
		list = append(list, memory[from:from+len(row)])
		from += len(row) + 2
	}
	roomy(list)[len(rows)] = []byte{77}
	return list, memory
}

func TestJoinCopies(t *testing.T) {
	for k := 1; k <= 4; k++ {
		for block := 1; block <= 5; block++ {
			for size := range 3*k*block + 2 {
				what := fmt.Sprintf("%d bytes, %d, %d", size, k, block)
				data := filled(size)
				rows := cut(t, data, k, block)
				list, memory := spacious(rows)
				before := slices.Clone(memory)
				for range 2 {
					back, ok := Join(list, size, block)
					if !ok || !bytes.Equal(back, data) {
						t.Fatalf("%s: %v, %v", what, back, ok)
					}
					checkApart(t, what, [][]byte{back}, memory)
					if !bytes.Equal(memory, before) || !equal(list, rows) || !bytes.Equal(roomy(list)[k], []byte{77}) {
						t.Fatalf("%s: what was handed in is changed", what)
					}
				}
				back, _ := Join(list, size, block)
				scribble(memory)
				clear(list)
				if !bytes.Equal(back, data) {
					t.Fatalf("%s: the data shares memory with the rows", what)
				}
			}
		}
	}
}

func TestRefusedLeavesAllAsItIs(t *testing.T) {
	rows := [][]byte{{1, 3, 5}, {2, 4, 0}}
	list, memory := spacious(rows)
	before := slices.Clone(memory)
	for _, size := range []int{-1, 0, 4, 7, api.MaxObject + 1} {
		refused(t, "refused", list, size, 1)
		refused(t, "refused", list, size, 0)
	}
	for _, k := range []int{-1, 0, api.MaxShards + 1} {
		if _, ok := Split(memory[:5], k, 1); ok {
			t.Errorf("k %d is taken", k)
		}
	}
	if !bytes.Equal(memory, before) || !equal(list, rows) || !bytes.Equal(roomy(list)[2], []byte{77}) {
		t.Error("what was handed in is changed")
	}
}

// One row handed in at several places is read at each, and stays.
func TestOneRowHandedInTwice(t *testing.T) {
	row := []byte{1, 2, 3}
	data, ok := Join([][]byte{row, row, row}, 8, 2)
	if want := []byte{1, 2, 1, 2, 1, 2, 3, 3}; !ok || !bytes.Equal(data, want) {
		t.Errorf("%v, %v; want %v", data, ok, want)
	}
	if !bytes.Equal(row, []byte{1, 2, 3}) {
		t.Errorf("the row is now %v", row)
	}
}
