// Package gf reckons in the field GF(2^8) of the polynomial 0x11D: see DOC.md, chapter 1.
package gf

const (
	// order is how many powers of 2 there are ahead of the first that comes again: all bytes but 0.
	order = 255
	// reduction is the polynomial 0x11D without its x^8, which a byte has no room for.
	reduction = 0x1D
)

// Table holds the powers of 2 and their logarithms. It is usable only as New makes it: one that New did not make answers as a nil one does.
type Table struct {
	exp [order]byte
	log [order + 1]byte
}

// New builds a table of its own for who asks.
func New() *Table {
	t := &Table{}
	power := byte(1)
	for n := range order {
		t.exp[n] = power
		t.log[power] = byte(n)
		power = double(power)
	}
	return t
}

// built tells a table of New from a nil or an empty one: 2 to the 0 is never 0.
func (t *Table) built() bool { return t != nil && t.exp[0] == 1 }

// Mul is the function Mul, by way of the logarithms.
func (t *Table) Mul(a, b byte) byte {
	if !t.built() || a == 0 || b == 0 {
		return 0
	}
	return t.Exp(int(t.log[a]) + int(t.log[b]))
}

// Div is the c with Mul(b, c) = a; false if b is 0.
func (t *Table) Div(a, b byte) (byte, bool) {
	if !t.built() || b == 0 {
		return 0, false
	}
	if a == 0 {
		return 0, true
	}
	return t.Exp(int(t.log[a]) - int(t.log[b])), true
}

// Inv is Div(1, a).
func (t *Table) Inv(a byte) (byte, bool) { return t.Div(1, a) }

// Exp is 2 to the n, n modulo 255, also below 0.
func (t *Table) Exp(n int) byte {
	if !t.built() {
		return 0
	}
	n %= order
	if n < 0 { // Go's remainder has the sign of n
		n += order
	}
	return t.exp[n]
}

// Log is the n from 0 to 254 of which Exp is a; false if a is 0.
func (t *Table) Log(a byte) (int, bool) {
	if !t.built() || a == 0 {
		return 0, false
	}
	return int(t.log[a]), true
}

// Pow is a to the n; 0 for n below 0, 1 for n 0, that of 0 too.
func (t *Table) Pow(a byte, n int) byte {
	switch {
	case !t.built() || n < 0:
		return 0
	case n == 0:
		return 1
	case a == 0:
		return 0
	}
	return t.Exp(int(t.log[a]) * (n % order)) // the remainder first: a great n would overflow
}

// Add is the sum, which is the difference too.
func Add(a, b byte) byte { return a ^ b }

// Mul is the product, without a table.
func Mul(a, b byte) byte {
	product := byte(0)
	for ; b > 0; b >>= 1 {
		if b&1 == 1 {
			product = Add(product, a)
		}
		a = double(a)
	}
	return product
}

// double is a times 2.
func double(a byte) byte {
	if a&0x80 == 0 {
		return a << 1
	}
	return a<<1 ^ reduction
}

// MulAdd is dst with c times src added to it, as far as both go.
func (t *Table) MulAdd(dst, src []byte, c byte) []byte {
	if !t.built() {
		return nil
	}
	sum := make([]byte, len(dst))
	copy(sum, dst)
	for i := range min(len(dst), len(src)) {
		sum[i] = Add(sum[i], t.Mul(c, src[i]))
	}
	return sum
}
