package gf

import (
	"bytes"
	"math"
	"testing"
)

// slowMul multiplies the polynomials whole, then divides by 0x11D: another way than the package's.
func slowMul(a, b byte) byte {
	p := 0
	for i := range 8 {
		if b>>i&1 == 1 {
			p ^= int(a) << i
		}
	}
	for i := 14; i >= 8; i-- {
		if p>>i&1 == 1 {
			p ^= 0x11D << (i - 8)
		}
	}
	return byte(p)
}

// P1.1

func TestExamples(t *testing.T) {
	x := New()
	if got := Mul(0x80, 2); got != 0x1d {
		t.Errorf("Mul(0x80, 2) = %#x", got)
	}
	if got := x.Exp(8); got != 0x1d {
		t.Errorf("Exp(8) = %#x", got)
	}
	if got, ok := x.Log(2); got != 1 || !ok {
		t.Errorf("Log(2) = %d, %v", got, ok)
	}
	if got, ok := x.Inv(2); got != 0x8e || !ok {
		t.Errorf("Inv(2) = %#x, %v", got, ok)
	}
}

func TestAddIsExclusiveOr(t *testing.T) {
	for a := range 256 {
		for b := range 256 {
			if got := Add(byte(a), byte(b)); got != byte(a^b) {
				t.Fatalf("Add(%d, %d) = %d", a, b, got)
			}
		}
	}
}

func TestMulAllPairs(t *testing.T) {
	x := New()
	for a := range 256 {
		for b := range 256 {
			want := slowMul(byte(a), byte(b))
			if got := Mul(byte(a), byte(b)); got != want {
				t.Fatalf("Mul(%d, %d) = %d, want %d", a, b, got, want)
			}
			if got := x.Mul(byte(a), byte(b)); got != want {
				t.Fatalf("table's Mul(%d, %d) = %d, want %d", a, b, got, want)
			}
		}
	}
}

func TestDivAllPairs(t *testing.T) {
	x := New()
	for a := range 256 {
		if c, ok := x.Div(byte(a), 0); c != 0 || ok {
			t.Fatalf("Div(%d, 0) = %d, %v", a, c, ok)
		}
		for b := 1; b < 256; b++ {
			c, ok := x.Div(byte(a), byte(b))
			if !ok || slowMul(byte(b), c) != byte(a) {
				t.Fatalf("Div(%d, %d) = %d, %v", a, b, c, ok)
			}
		}
	}
}

func TestInvAll(t *testing.T) {
	x := New()
	if c, ok := x.Inv(0); c != 0 || ok {
		t.Errorf("Inv(0) = %d, %v", c, ok)
	}
	for a := 1; a < 256; a++ {
		c, ok := x.Inv(byte(a))
		if !ok || slowMul(byte(a), c) != 1 {
			t.Fatalf("Inv(%d) = %d, %v", a, c, ok)
		}
	}
}

func TestExpAroundTheField(t *testing.T) {
	x := New()
	power := byte(1)
	for n := range 255 {
		for _, m := range []int{n, n + 255, n + 510, n + 255*1000003, n - 255, n - 510, n - 255*1000003} {
			if got := x.Exp(m); got != power {
				t.Fatalf("Exp(%d) = %d, want %d", m, got, power)
			}
		}
		power = slowMul(power, 2)
	}
}

func TestExpEdges(t *testing.T) {
	x := New()
	for _, c := range []struct {
		n    int
		want byte
	}{
		{0, 1}, {1, 2}, {7, 0x80}, {254, 0x8e}, {255, 1}, {256, 2},
		{-1, 0x8e}, {-254, 2}, {-255, 1}, {-256, 0x8e},
	} {
		if got := x.Exp(c.n); got != c.want {
			t.Errorf("Exp(%d) = %#x, want %#x", c.n, got, c.want)
		}
	}
	for _, n := range []int{math.MaxInt, math.MaxInt - 1, math.MinInt, math.MinInt + 1} {
		if got, want := x.Exp(n), x.Exp((n%255+255)%255); got != want {
			t.Errorf("Exp(%d) = %#x, want %#x", n, got, want)
		}
	}
}

func TestLogAll(t *testing.T) {
	x := New()
	if n, ok := x.Log(0); n != 0 || ok {
		t.Errorf("Log(0) = %d, %v", n, ok)
	}
	power := byte(1)
	for want := range 255 {
		if n, ok := x.Log(power); n != want || !ok {
			t.Fatalf("Log(%d) = %d, %v, want %d", power, n, ok, want)
		}
		power = slowMul(power, 2)
	}
}

func TestPowByProducts(t *testing.T) {
	x := New()
	for a := range 256 {
		want := byte(1)
		for n := range 600 {
			if got := x.Pow(byte(a), n); got != want {
				t.Fatalf("Pow(%d, %d) = %d, want %d", a, n, got, want)
			}
			want = slowMul(want, byte(a))
		}
	}
}

func TestPowEdges(t *testing.T) {
	x := New()
	for a := range 256 {
		for _, n := range []int{-1, -2, -255, -256, math.MinInt} {
			if got := x.Pow(byte(a), n); got != 0 {
				t.Fatalf("Pow(%d, %d) = %d, want 0", a, n, got)
			}
		}
		if got := x.Pow(byte(a), 0); got != 1 {
			t.Fatalf("Pow(%d, 0) = %d, want 1", a, got)
		}
	}
	for _, n := range []int{1, 254, 255, 256, math.MaxInt} {
		if got := x.Pow(0, n); got != 0 {
			t.Errorf("Pow(0, %d) = %d, want 0", n, got)
		}
	}
}

// slowPow multiplies by squares: n may be great.
func slowPow(a byte, n int) byte {
	p := byte(1)
	for ; n > 0; n >>= 1 {
		if n&1 == 1 {
			p = slowMul(p, a)
		}
		a = slowMul(a, a)
	}
	return p
}

func TestPowOfGreatNumbers(t *testing.T) {
	x := New()
	for a := range 256 {
		for _, n := range []int{math.MaxInt, math.MaxInt - 1, math.MaxInt / 2, math.MaxInt / 255 * 255} {
			if got, want := x.Pow(byte(a), n), slowPow(byte(a), n); got != want {
				t.Fatalf("Pow(%d, %d) = %d, want %d", a, n, got, want)
			}
		}
	}
}

// R7, and a table that New did not make is answered alike.
func TestNoTable(t *testing.T) {
	for what, x := range map[string]*Table{"nil": nil, "empty": {}} {
		for _, a := range []byte{0, 1, 2, 255} {
			if got := x.Mul(a, 3); got != 0 {
				t.Errorf("%s: Mul(%d, 3) = %d", what, a, got)
			}
			if got, ok := x.Div(a, 3); got != 0 || ok {
				t.Errorf("%s: Div(%d, 3) = %d, %v", what, a, got, ok)
			}
			if got, ok := x.Inv(a); got != 0 || ok {
				t.Errorf("%s: Inv(%d) = %d, %v", what, a, got, ok)
			}
			if got, ok := x.Log(a); got != 0 || ok {
				t.Errorf("%s: Log(%d) = %d, %v", what, a, got, ok)
			}
			for _, n := range []int{-1, 0, 1, 255} {
				if e, p := x.Exp(n), x.Pow(a, n); e != 0 || p != 0 {
					t.Errorf("%s: Exp(%d), Pow(%d, %d) = %d, %d", what, n, a, n, e, p)
				}
			}
			if got := x.MulAdd([]byte{1, 2}, []byte{3}, a); len(got) != 0 {
				t.Errorf("%s: MulAdd by %d = %v", what, a, got)
			}
		}
	}
}

// R5: every table is as good as every other.
func TestTablesAreAlike(t *testing.T) {
	a, b := New(), New()
	if a == b || *a != *b {
		t.Error("two tables are one, or differ")
	}
}

// P1.2

func TestMulAddLengths(t *testing.T) {
	x := New()
	for _, c := range []struct {
		what     string
		dst, src []byte
		c        byte
		want     []byte
	}{
		{"as long", []byte{1, 2, 3}, []byte{1, 1, 0x80}, 2, []byte{3, 0, 0x1e}},
		{"dst longer", []byte{1, 2, 3}, []byte{1, 1}, 2, []byte{3, 0, 3}},
		{"dst shorter", []byte{1, 2}, []byte{1, 1, 1, 1}, 2, []byte{3, 0}},
		{"times 0", []byte{1, 2, 3}, []byte{9, 9, 9, 9}, 0, []byte{1, 2, 3}},
		{"times 1", []byte{1, 2, 3}, []byte{1, 2, 3}, 1, []byte{0, 0, 0}},
		{"src of 0", []byte{1, 2, 3}, []byte{0, 0, 0}, 7, []byte{1, 2, 3}},
		{"src nil", []byte{1, 2, 3}, nil, 5, []byte{1, 2, 3}},
		{"src empty", []byte{1, 2, 3}, []byte{}, 5, []byte{1, 2, 3}},
		{"dst nil", nil, []byte{1, 2}, 5, nil},
		{"dst empty", []byte{}, []byte{1, 2}, 5, nil},
		{"both nil", nil, nil, 5, nil},
	} {
		if got := x.MulAdd(c.dst, c.src, c.c); !bytes.Equal(got, c.want) {
			t.Errorf("%s: %v, want %v", c.what, got, c.want)
		}
	}
}

func TestMulAddAllBytes(t *testing.T) {
	x := New()
	dst, src := make([]byte, 256), make([]byte, 256)
	for i := range 256 {
		dst[i], src[i] = byte(7*i+3), byte(i)
	}
	for c := range 256 {
		for i, got := range x.MulAdd(dst, src, byte(c)) {
			if want := dst[i] ^ slowMul(byte(c), src[i]); got != want {
				t.Fatalf("by %d, at %d: %d, want %d", c, i, got, want)
			}
		}
	}
}

// R4: what is handed in stays, spare room and all, while the answer is written to.
func TestMulAddOwnMemory(t *testing.T) {
	x := New()
	for _, lens := range [][2]int{{3, 3}, {3, 2}, {2, 3}, {3, 0}, {0, 3}, {0, 0}} {
		dst, src := []byte{1, 2, 3, 4, 5, 6}, []byte{7, 8, 9, 10, 11, 12}
		for _, c := range []byte{0, 1, 2} {
			got := x.MulAdd(dst[:lens[0]], src[:lens[1]], c)
			got = got[:cap(got)]
			for i := range got {
				got[i] = 0xff
			}
			if !bytes.Equal(dst, []byte{1, 2, 3, 4, 5, 6}) || !bytes.Equal(src, []byte{7, 8, 9, 10, 11, 12}) {
				t.Fatalf("lengths %v, by %d: dst %v, src %v", lens, c, dst, src)
			}
		}
	}
}

func TestMulAddOfOneMemory(t *testing.T) {
	x := New()
	l := []byte{1, 2, 3, 4}
	if got := x.MulAdd(l[1:], l[:3], 2); !bytes.Equal(got, []byte{2 ^ 2, 3 ^ 4, 4 ^ 6}) {
		t.Errorf("overlapping: %v", got)
	}
	if got := x.MulAdd(l, l, 3); !bytes.Equal(got, []byte{1 ^ 3, 2 ^ 6, 3 ^ 5, 4 ^ 12}) {
		t.Errorf("one list twice: %v", got)
	}
	if !bytes.Equal(l, []byte{1, 2, 3, 4}) {
		t.Errorf("changed: %v", l)
	}
}

// R5: an answer does not hang on calls ahead of it.
func TestMulAddTwice(t *testing.T) {
	x := New()
	first := x.MulAdd([]byte{1, 2, 3}, []byte{4, 5, 6}, 9)
	kept := bytes.Clone(first)
	second := x.MulAdd([]byte{1, 2, 3}, []byte{4, 5, 6}, 9)
	second[0]++
	third := x.MulAdd([]byte{1, 2, 3}, []byte{4, 5, 6}, 9)
	if !bytes.Equal(first, kept) || !bytes.Equal(third, kept) {
		t.Errorf("%v, then %v, want %v", first, third, kept)
	}
}
