package crc

import (
	"bytes"
	"hash/crc32"
	"math"
	"math/bits"
	"math/rand"
	"testing"
)

// slowSum follows the chapter's words one by one, with the polynomial as it stands there: each byte turned round, the division highest bit first, the rest turned round and turned over.
func slowSum(b []byte) uint32 {
	rest := uint32(0xffffffff)
	for _, x := range b {
		rest ^= uint32(bits.Reverse8(x)) << 24
		for range 8 {
			high := rest >> 31
			rest <<= 1
			if high == 1 {
				rest ^= 0x1EDC6F41
			}
		}
	}
	return ^bits.Reverse32(rest)
}

// drawn makes a row of n bytes, the same ones for each seed.
func drawn(seed int64, n int) []byte {
	b := make([]byte, n)
	rand.New(rand.NewSource(seed)).Read(b)
	return b
}

// join lays rows one behind the other.
func join(rows ...[]byte) []byte {
	return bytes.Join(rows, nil)
}

// someSums: the least and the greatest, each bit alone, each bit missing, and drawn ones.
func someSums() []uint32 {
	sums := []uint32{0, math.MaxUint32, 0xe3069283, 0x01020304, 0x7fffffff, 0x80000000, 0xff, 0xff00, 0xff0000, 0xff000000}
	for i := range 32 {
		sums = append(sums, 1<<i, ^uint32(1<<i))
	}
	r := rand.New(rand.NewSource(41))
	for range 1000 {
		sums = append(sums, r.Uint32())
	}
	return sums
}

// P4.1

func TestExamples(t *testing.T) {
	if got := Sum([]byte("123456789")); got != 0xe3069283 {
		t.Errorf("Sum(123456789) = %#x", got)
	}
	if got := Sum([]byte("")); got != 0 {
		t.Errorf("Sum() = %#x", got)
	}
}

// TestKnownSums holds rows against sums that others have published (RFC 3720, B.4).
func TestKnownSums(t *testing.T) {
	up, down := make([]byte, 32), make([]byte, 32)
	for i := range 32 {
		up[i], down[i] = byte(i), byte(31-i)
	}
	for _, c := range []struct {
		what string
		row  []byte
		want uint32
	}{
		{"32 zeros", make([]byte, 32), 0x8a9136aa},
		{"32 times 255", bytes.Repeat([]byte{255}, 32), 0x62a8ab43},
		{"0 to 31", up, 0x46dd794e},
		{"31 to 0", down, 0x113fdb5c},
	} {
		if got := Sum(c.row); got != c.want {
			t.Errorf("%s: %#x, want %#x", c.what, got, c.want)
		}
	}
}

func TestSumOfNothing(t *testing.T) {
	for _, b := range [][]byte{nil, {}, make([]byte, 0, 9), drawn(1, 9)[4:4]} {
		if got := Sum(b); got != 0 {
			t.Errorf("Sum(%v) = %#x", b, got)
		}
	}
}

func TestSumOfOneByte(t *testing.T) {
	seen := map[uint32]int{}
	for x := range 256 {
		got := Sum([]byte{byte(x)})
		if want := slowSum([]byte{byte(x)}); got != want {
			t.Errorf("Sum(%d) = %#x, want %#x", x, got, want)
		}
		if y, ok := seen[got]; ok {
			t.Errorf("%d and %d have one sum", x, y)
		}
		seen[got] = x
	}
}

func TestSumOfTwoBytes(t *testing.T) {
	for x := range 256 {
		for y := range 256 {
			b := []byte{byte(x), byte(y)}
			if got, want := Sum(b), slowSum(b); got != want {
				t.Fatalf("Sum(%v) = %#x, want %#x", b, got, want)
			}
		}
	}
}

func TestSumOfEachLength(t *testing.T) {
	table := crc32.MakeTable(crc32.Castagnoli)
	for n := range 300 {
		for _, b := range [][]byte{make([]byte, n), bytes.Repeat([]byte{255}, n), drawn(int64(n), n)} {
			got := Sum(b)
			if want := slowSum(b); got != want {
				t.Fatalf("Sum of %d bytes = %#x, want %#x", n, got, want)
			}
			if want := crc32.Checksum(b, table); got != want {
				t.Fatalf("Sum of %d bytes = %#x, the library has %#x", n, got, want)
			}
		}
	}
	for _, n := range []int{4096, 1 << 16, 1<<17 - 1, 1 << 17, 1 << 18} {
		b := drawn(int64(n), n)
		if got, want := Sum(b), crc32.Checksum(b, table); got != want {
			t.Errorf("Sum of %d bytes = %#x, want %#x", n, got, want)
		}
	}
}

func TestZerosCount(t *testing.T) {
	seen := map[uint32]int{}
	for n := range 200 {
		s := Sum(make([]byte, n))
		if m, ok := seen[s]; ok {
			t.Errorf("%d and %d zeros have one sum", m, n)
		}
		seen[s] = n
	}
}

func TestMoreCutAtEveryPlace(t *testing.T) {
	for _, row := range [][]byte{nil, {0}, {255}, []byte("123456789"), drawn(2, 65), make([]byte, 40), bytes.Repeat([]byte{255}, 40)} {
		want := slowSum(row)
		for i := 0; i <= len(row); i++ {
			if got := More(Sum(row[:i]), row[i:]); got != want {
				t.Errorf("%v cut at %d: %#x, want %#x", row, i, got, want)
			}
			for j := i; j <= len(row); j++ {
				if got := More(More(Sum(row[:i]), row[i:j]), row[j:]); got != want {
					t.Errorf("%v cut at %d and %d: %#x, want %#x", row, i, j, got, want)
				}
			}
		}
	}
}

func TestMoreByteByByte(t *testing.T) {
	row := drawn(3, 5000)
	s := Sum(nil)
	for i, x := range row {
		if s = More(s, []byte{x}); i%97 == 0 && s != slowSum(row[:i+1]) {
			t.Fatalf("the sum behind byte %d is %#x", i, s)
		}
	}
	if s != slowSum(row) {
		t.Errorf("byte by byte %#x, want %#x", s, slowSum(row))
	}
}

func TestMoreOfNothing(t *testing.T) {
	for _, s := range someSums() {
		if got := More(s, nil); got != s {
			t.Errorf("More(%#x, nil) = %#x", s, got)
		}
		if got := More(s, []byte{}); got != s {
			t.Errorf("More(%#x, none) = %#x", s, got)
		}
	}
}

// rowOfSum finds the four bytes whose sum is s: the division, undone bit by bit.
func rowOfSum(s uint32) []byte {
	rest := ^s
	for range 32 {
		if high := rest >> 31; high == 1 {
			rest = (rest^0x82f63b78)<<1 | 1
		} else {
			rest <<= 1
		}
	}
	return Bytes(^rest)
}

// TestMoreFromEachSum: whatever number a sum is, it is that of some row, and the sum goes on from there.
func TestMoreFromEachSum(t *testing.T) {
	tail := drawn(4, 21)
	for _, s := range someSums() {
		head := rowOfSum(s)
		if got := Sum(head); got != s {
			t.Fatalf("Sum(%v) = %#x, want %#x", head, got, s)
		}
		if got, want := More(s, tail), slowSum(join(head, tail)); got != want {
			t.Errorf("More(%#x, ..) = %#x, want %#x", s, got, want)
		}
	}
}

func TestNoStateIsKept(t *testing.T) {
	a, b := []byte("one row"), []byte("another")
	first := []uint32{Sum(a), Sum(b), More(7, a), More(7, b)}
	for range 3 {
		again := []uint32{Sum(a), Sum(b), More(7, a), More(7, b)}
		for i, s := range again {
			if s != first[i] {
				t.Errorf("answer %d was %#x, and is %#x", i, first[i], s)
			}
		}
	}
}

func TestBytesLowestFirst(t *testing.T) {
	for _, c := range []struct {
		s    uint32
		want []byte
	}{
		{0, []byte{0, 0, 0, 0}},
		{math.MaxUint32, []byte{255, 255, 255, 255}},
		{0xe3069283, []byte{0x83, 0x92, 0x06, 0xe3}},
		{1, []byte{1, 0, 0, 0}},
		{0x80000000, []byte{0, 0, 0, 0x80}},
		{0x04030201, []byte{1, 2, 3, 4}},
	} {
		if got := Bytes(c.s); !bytes.Equal(got, c.want) {
			t.Errorf("Bytes(%#x) = %v, want %v", c.s, got, c.want)
		}
		if got, ok := Read(c.want); got != c.s || !ok {
			t.Errorf("Read(%v) = %#x, %v, want %#x", c.want, got, ok, c.s)
		}
	}
}

func TestReadOfBytes(t *testing.T) {
	for _, s := range someSums() {
		b := Bytes(s)
		if len(b) != 4 {
			t.Fatalf("Bytes(%#x) = %v", s, b)
		}
		if got, ok := Read(b); got != s || !ok {
			t.Errorf("Read(Bytes(%#x)) = %#x, %v", s, got, ok)
		}
	}
}

func TestBytesOfRead(t *testing.T) {
	for at := range 4 {
		for x := range 256 {
			b := []byte{9, 99, 199, 250}
			b[at] = byte(x)
			s, ok := Read(b)
			if !ok || !bytes.Equal(Bytes(s), b) {
				t.Errorf("Read(%v) = %#x, %v", b, s, ok)
			}
		}
	}
}

func TestReadOfOtherLengths(t *testing.T) {
	long := []byte{1, 2, 3, 4, 5, 6, 7, 8}
	for n := range 9 {
		for _, b := range [][]byte{long[:n], long[:n:n], append([]byte{}, long[:n]...)} {
			s, ok := Read(b)
			if n == 4 && (s != 0x04030201 || !ok) || n != 4 && (s != 0 || ok) {
				t.Errorf("Read of %d bytes = %#x, %v", n, s, ok)
			}
		}
	}
	for _, b := range [][]byte{nil, {}, make([]byte, 0, 4), make([]byte, 1<<16), make([]byte, 260)} {
		if s, ok := Read(b); s != 0 || ok {
			t.Errorf("Read of %d bytes = %#x, %v", len(b), s, ok)
		}
	}
}

// P4.2: bits in a row are told as the sum takes them, each byte's lowest first.

// turn turns over bits of a copy of row: those of burst, its lowest at place at.
func turn(row []byte, at int, burst uint64) []byte {
	b := bytes.Clone(row)
	for i := range 64 {
		if burst>>i&1 == 1 {
			b[(at+i)/8] ^= 1 << ((at + i) % 8)
		}
	}
	return b
}

// bursts are rows of bits of just that length, so both ends are set: all of them up to 10 bits, of longer ones some.
func bursts(length int) []uint64 {
	ends := uint64(1) | 1<<(length-1)
	inner := max(length-2, 0)
	var out []uint64
	if length <= 10 {
		for x := range uint64(1) << inner {
			out = append(out, ends|x<<1)
		}
		return out
	}
	mask := uint64(1)<<length - 1
	out = append(out, ends, mask, ends|0x5555555555555555&mask, ends|0xaaaaaaaaaaaaaaaa&mask)
	for i := range inner {
		out = append(out, ends|1<<(i+1), mask^1<<(i+1))
	}
	r := rand.New(rand.NewSource(int64(length)))
	for range 100 {
		out = append(out, ends|r.Uint64()&mask)
	}
	return out
}

func TestBurstsAreFound(t *testing.T) {
	for _, row := range [][]byte{make([]byte, 9), bytes.Repeat([]byte{255}, 9), drawn(5, 9), drawn(6, 4)} {
		sum := Sum(row)
		for length := 1; length <= 32; length++ {
			for _, burst := range bursts(length) {
				for at := 0; at+length <= 8*len(row); at++ {
					if b := turn(row, at, burst); Sum(b) == sum {
						t.Fatalf("%v and %v have one sum", row, b)
					}
				}
			}
		}
	}
}

func TestShortRowsHaveTheirOwnSums(t *testing.T) {
	seen := map[uint32]int{}
	for x := range 1 << 16 {
		s := Sum([]byte{byte(x), byte(x >> 8)})
		if y, ok := seen[s]; ok {
			t.Fatalf("rows %#x and %#x of two bytes have one sum", y, x)
		}
		seen[s] = x
	}
}

// TestSumsAreAffine: what a change does to the sum hangs on the change and its place alone, so that TestEveryBurst may tell of one row what holds for all.
func TestSumsAreAffine(t *testing.T) {
	for n := range 40 {
		a, b, c := drawn(int64(n), n), drawn(int64(n+100), n), drawn(int64(n+200), n)
		all := make([]byte, n)
		for i := range all {
			all[i] = a[i] ^ b[i] ^ c[i]
		}
		if Sum(all) != Sum(a)^Sum(b)^Sum(c) {
			t.Errorf("rows of %d bytes", n)
		}
	}
}

// TestEveryBurst: at each place what 32 bits in a row, each alone, do to the sum is independent; so no choice of them, which is each burst of up to 32 bits, leaves the sum as it was.
func TestEveryBurst(t *testing.T) {
	row := drawn(7, 40)
	sum := Sum(row)
	for at := 0; at+32 <= 8*len(row); at++ {
		var byHighest [32]uint32
		for i := range 32 {
			effect := Sum(turn(row, at+i, 1)) ^ sum
			for effect != 0 && byHighest[bits.Len32(effect)-1] != 0 {
				effect ^= byHighest[bits.Len32(effect)-1]
			}
			if effect == 0 {
				t.Fatalf("bits from %d on: %d of them leave the sum as it was", at, i+1)
			}
			byHighest[bits.Len32(effect)-1] = effect
		}
	}
}

// TestBurstOf33Bits: the polynomial itself is the shortest change that isn't found, so the bound of 32 bits is sharp.
func TestBurstOf33Bits(t *testing.T) {
	row := drawn(8, 12)
	whole := uint64(bits.Reverse32(0x1EDC6F41))<<1 | 1
	for at := 0; at+33 <= 8*len(row); at++ {
		if Sum(turn(row, at, whole)) != Sum(row) {
			t.Errorf("the polynomial at %d changes the sum", at)
		}
	}
}

// R1, R4

func TestNothingIsChanged(t *testing.T) {
	room := drawn(9, 64)
	before := bytes.Clone(room)
	for n := 0; n <= 32; n++ {
		Sum(room[:n])
		More(77, room[:n])
		Read(room[:n])
	}
	if !bytes.Equal(room, before) {
		t.Error("a row that was handed in is changed")
	}
}

func TestBytesAreNewMemory(t *testing.T) {
	a, b := Bytes(0x01020304), Bytes(0x01020304)
	for i := range a[:cap(a)] {
		a[:cap(a)][i] = 99
	}
	if !bytes.Equal(b, []byte{4, 3, 2, 1}) || !bytes.Equal(Bytes(0x01020304), []byte{4, 3, 2, 1}) {
		t.Error("two answers share memory")
	}
	s, _ := Read(b)
	b[0] = 99
	if s != 0x01020304 || !bytes.Equal(Bytes(s), []byte{4, 3, 2, 1}) {
		t.Error("a sum hangs on the row that it was read from")
	}
}
