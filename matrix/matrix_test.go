package matrix

import (
	"bytes"
	"fmt"
	"math"
	"math/bits"
	"math/rand"
	"testing"

	"strongbox/api"
	"strongbox/gf"
)

// noSides are numbers that no side of a matrix has.
var noSides = []int{0, -1, 256, 257, 512, 511, math.MinInt, math.MaxInt, 1 << 32, 1<<32 + 1, 1<<8 + 1}

// filled is rows of a pattern without a 0, so that none of them is overlooked.
func filled(rows, cols int) Matrix {
	m := make(Matrix, rows)
	for r := range m {
		m[r] = make([]byte, cols)
		for c := range m[r] {
			m[r][c] = byte((r*7+c*13)%255 + 1)
		}
	}
	return m
}

// drawn is rows of a source with a given beginning.
func drawn(source *rand.Rand, rows, cols int) Matrix {
	m := filled(rows, cols)
	for _, row := range m {
		for c := range row {
			row[c] = byte(source.Intn(256))
		}
	}
	return m
}

// notMatrices are rows that are no matrix, each for one cause.
func notMatrices() map[string]Matrix {
	return map[string]Matrix{
		"nil":                nil,
		"no rows":            {},
		"a row of nothing":   {{}},
		"a nil row":          {nil},
		"rows of nothing":    {{}, {}},
		"first of nothing":   {{}, {1}},
		"second of nothing":  {{1}, {}},
		"second nil":         {{1}, nil},
		"second longer":      {{1}, {1, 2}},
		"second shorter":     {{1, 2}, {1}},
		"last longer":        {{1, 2}, {3, 4}, {5, 6, 7}},
		"one shorter within": {{1, 2, 3}, {4, 5}, {6, 7, 8}},
		"too many rows":      filled(256, 1),
		"too many columns":   filled(1, 256),
		"too many of both":   filled(256, 256),
	}
}

// plainMul sums the products of one place after the other.
func plainMul(a, b Matrix) Matrix {
	table := gf.New()
	p := make(Matrix, len(a))
	for r := range a {
		p[r] = make([]byte, len(b[0]))
		for c := range p[r] {
			for i := range b {
				p[r][c] ^= table.Mul(a[r][i], b[i][c])
			}
		}
	}
	return p
}

// equal is Same, without the package.
func equal(a, b Matrix) bool {
	if len(a) != len(b) {
		return false
	}
	for r := range a {
		if !bytes.Equal(a[r], b[r]) {
			return false
		}
	}
	return true
}

// isUnit tells whether m is n rows with a 1 in each one's own place, and 0 elsewhere.
func isUnit(m Matrix, n int) bool {
	if len(m) != n {
		return false
	}
	for r, row := range m {
		if len(row) != n {
			return false
		}
		for c, b := range row {
			if (r == c) != (b == 1) || b > 1 {
				return false
			}
		}
	}
	return true
}

func refused(t *testing.T, what string, m Matrix, ok bool) {
	t.Helper()
	if len(m) != 0 || ok {
		t.Errorf("%s: %d rows, %v", what, len(m), ok)
	}
}

// P2.1: Unit, Vandermonde

func TestUnit(t *testing.T) {
	for n := 1; n <= 255; n++ {
		if !isUnit(Unit(n), n) {
			t.Fatalf("Unit(%d)", n)
		}
	}
	for _, n := range noSides {
		if m := Unit(n); len(m) != 0 {
			t.Errorf("Unit(%d): %d rows", n, len(m))
		}
	}
}

func TestVandermondeHasThePowers(t *testing.T) {
	m := Vandermonde(255, 255)
	if len(m) != 255 {
		t.Fatalf("%d rows", len(m))
	}
	for r, row := range m {
		if len(row) != 255 {
			t.Fatalf("row %d: %d columns", r, len(row))
		}
		power := byte(1)
		for c, got := range row {
			if got != power {
				t.Fatalf("row %d, column %d: %d, want %d", r, c, got, power)
			}
			power = gf.Mul(power, byte(r))
		}
	}
}

func TestVandermondeSides(t *testing.T) {
	if m := Vandermonde(3, 2); !equal(m, Matrix{{1, 0}, {1, 1}, {1, 2}}) {
		t.Errorf("Vandermonde(3, 2) = %v", m)
	}
	if m := Vandermonde(2, 3); !equal(m, Matrix{{1, 0, 0}, {1, 1, 1}}) {
		t.Errorf("Vandermonde(2, 3) = %v", m)
	}
	if m := Vandermonde(1, 1); !equal(m, Matrix{{1}}) {
		t.Errorf("Vandermonde(1, 1) = %v", m)
	}
	if m := Vandermonde(255, 1); len(m) != 255 || len(m[254]) != 1 {
		t.Errorf("Vandermonde(255, 1): %d rows", len(m))
	}
	if m := Vandermonde(1, 255); len(m) != 1 || len(m[0]) != 255 {
		t.Errorf("Vandermonde(1, 255): %d rows", len(m))
	}
	for _, n := range noSides {
		for _, sides := range [][2]int{{n, 1}, {1, n}, {255, n}, {n, 255}, {n, n}} {
			if m := Vandermonde(sides[0], sides[1]); len(m) != 0 {
				t.Errorf("Vandermonde(%d, %d): %d rows", sides[0], sides[1], len(m))
			}
		}
	}
}

// P2.1: Mul

func TestMul(t *testing.T) {
	source := rand.New(rand.NewSource(1))
	for range 200 {
		rows, inner, cols := 1+source.Intn(6), 1+source.Intn(6), 1+source.Intn(6)
		a, b := drawn(source, rows, inner), drawn(source, inner, cols)
		got, ok := Mul(a, b)
		if !ok || !equal(got, plainMul(a, b)) {
			t.Fatalf("Mul(%v, %v) = %v, %v", a, b, got, ok)
		}
	}
}

func TestMulAtTheLimits(t *testing.T) {
	for _, sides := range [][3]int{{255, 1, 255}, {1, 255, 1}, {255, 255, 1}, {1, 255, 255}, {255, 255, 255}} {
		a, b := filled(sides[0], sides[1]), filled(sides[1], sides[2])
		got, ok := Mul(a, b)
		if !ok || !equal(got, plainMul(a, b)) {
			t.Errorf("sides %v: %v", sides, ok)
		}
	}
}

func TestMulRefuses(t *testing.T) {
	for what, m := range notMatrices() {
		for _, n := range []int{1, 2, 3, 255} {
			got, ok := Mul(m, filled(n, 1))
			refused(t, what+" ahead", got, ok)
			got, ok = Mul(filled(1, n), m)
			refused(t, what+" behind", got, ok)
		}
		got, ok := Mul(m, m)
		refused(t, what+" twice", got, ok)
	}
	for _, sides := range [][2]int{{2, 3}, {3, 2}, {1, 2}, {2, 1}, {255, 254}, {254, 255}} {
		got, ok := Mul(filled(1, sides[0]), filled(sides[1], 1))
		refused(t, "columns that are not the rows", got, ok)
	}
	got, ok := Mul(filled(3, 2), filled(3, 2))
	refused(t, "the same sides", got, ok)
}

// P2.1: Invert

// checkInverse holds the inverse against the matrix, from both sides.
func checkInverse(t *testing.T, a Matrix) {
	t.Helper()
	inverse, ok := Invert(a)
	if !ok || len(inverse) != len(a) {
		t.Fatalf("no inverse of %v: %d rows, %v", a, len(inverse), ok)
	}
	for _, row := range inverse {
		if len(row) != len(a) {
			t.Fatalf("an inverse of %d rows with a row of %d", len(a), len(row))
		}
	}
	if !isUnit(plainMul(a, inverse), len(a)) || !isUnit(plainMul(inverse, a), len(a)) {
		t.Fatalf("Invert(%v) = %v", a, inverse)
	}
}

func TestInvertOfOne(t *testing.T) {
	for b := 1; b < 256; b++ {
		checkInverse(t, Matrix{{byte(b)}})
	}
	got, ok := Invert(Matrix{{0}})
	refused(t, "0", got, ok)
}

// Of two rows it is the determinant that tells whether there is an inverse.
func TestInvertOfTwo(t *testing.T) {
	picked := []byte{0, 1, 2, 3, 0x1d, 0x80, 0x8e, 255}
	for _, a := range picked {
		for _, b := range picked {
			for _, c := range picked {
				for _, d := range picked {
					m := Matrix{{a, b}, {c, d}}
					if gf.Mul(a, d) != gf.Mul(b, c) {
						checkInverse(t, m)
						continue
					}
					got, ok := Invert(m)
					refused(t, "determinant 0", got, ok)
				}
			}
		}
	}
}

func TestInvertWhereRowsMustBeExchanged(t *testing.T) {
	checkInverse(t, Matrix{{0, 1}, {1, 0}})
	checkInverse(t, Matrix{{0, 0, 3}, {0, 5, 0}, {7, 0, 0}})
	checkInverse(t, Matrix{{0, 1, 0}, {0, 0, 1}, {1, 0, 0}})
	checkInverse(t, Matrix{{1, 1, 1}, {1, 1, 2}, {1, 3, 1}})
	reversed := make(Matrix, 255)
	for r := range reversed {
		reversed[r] = make([]byte, 255)
		reversed[r][254-r] = byte(r + 1)
	}
	checkInverse(t, reversed)
}

func TestInvertOfMany(t *testing.T) {
	for _, n := range []int{1, 2, 3, 10, 100, 254, 255} {
		checkInverse(t, Vandermonde(n, n))
		checkInverse(t, Unit(n))
	}
}

// A square that is drawn has an inverse most often; one of which a row is the sum of multiples of the others never has.
func TestInvertOfDrawn(t *testing.T) {
	source := rand.New(rand.NewSource(2))
	there := 0
	for range 300 {
		n := 2 + source.Intn(6)
		m := drawn(source, n, n)
		if _, ok := Invert(m); ok {
			there++
			checkInverse(t, m)
		}
		hanging := source.Intn(n)
		m[hanging] = make([]byte, n)
		for r, row := range m {
			factor := byte(source.Intn(256))
			for c := range row {
				if r != hanging {
					m[hanging][c] ^= gf.Mul(factor, row[c])
				}
			}
		}
		got, ok := Invert(m)
		refused(t, "a row that hangs on the others", got, ok)
	}
	if there < 280 {
		t.Errorf("only %d of 300 have an inverse", there)
	}
}

func TestInvertRefuses(t *testing.T) {
	for what, m := range notMatrices() {
		got, ok := Invert(m)
		refused(t, what, got, ok)
	}
	for what, m := range map[string]Matrix{
		"more rows":          {{1, 0}, {0, 1}, {1, 1}},
		"more columns":       {{1, 0, 0}, {0, 1, 0}},
		"one row of two":     {{1, 0}},
		"two rows of one":    {{1}, {1}},
		"zeros":              {{0, 0}, {0, 0}},
		"a row of zeros":     {{1, 2}, {0, 0}},
		"a column of zeros":  {{0, 1}, {0, 2}},
		"a row twice":        {{1, 2, 3}, {4, 5, 6}, {1, 2, 3}},
		"a row doubled":      {{1, 3}, {2, 6}},
		"a column twice":     {{1, 1, 3}, {4, 4, 5}, {6, 6, 8}},
		"the sum of two":     {{1, 2, 3}, {4, 5, 7}, {5, 7, 4}},
		"254 of 255":         Vandermonde(254, 255),
		"255 of 254":         Vandermonde(255, 254),
		"the last of zeros":  append(Unit(254), make([]byte, 254))[1:],
		"all 255 of one row": bytesOf(255, 1),
	} {
		got, ok := Invert(m)
		refused(t, what, got, ok)
	}
}

// bytesOf is a square of n rows that has b everywhere.
func bytesOf(n int, b byte) Matrix {
	m := make(Matrix, n)
	for r := range m {
		m[r] = bytes.Repeat([]byte{b}, n)
	}
	return m
}

// P2.1: Rows

func TestRows(t *testing.T) {
	m := Matrix{{1, 2}, {3, 4}, {5, 6}}
	for _, l := range [][]int{{0}, {1}, {2}, {0, 1, 2}, {2, 0, 2}, {1, 1, 1, 1, 1}, make([]int, 255)} {
		got, ok := Rows(m, l...)
		if !ok || len(got) != len(l) {
			t.Fatalf("Rows %v = %v, %v", l, got, ok)
		}
		for i, r := range l {
			if !bytes.Equal(got[i], m[r]) {
				t.Errorf("Rows %v: row %d is %v", l, i, got[i])
			}
		}
	}
	great := filled(255, 255)
	got, ok := Rows(great, 254, 0)
	if !ok || !equal(got, Matrix{great[254], great[0]}) {
		t.Errorf("Rows 254, 0 of 255: %v", ok)
	}
}

func TestRowsRefuses(t *testing.T) {
	for what, m := range notMatrices() {
		got, ok := Rows(m, 0)
		refused(t, what, got, ok)
		got, ok = Rows(m)
		refused(t, what+", none asked for", got, ok)
	}
	m := Matrix{{1, 2}, {3, 4}, {5, 6}}
	for what, l := range map[string][]int{
		"none":                {},
		"the number of rows":  {3},
		"below 0":             {-1},
		"least":               {math.MinInt},
		"greatest":            {math.MaxInt},
		"a byte's round":      {256},
		"first not there":     {3, 0},
		"last not there":      {0, 1, 2, 3},
		"last below 0":        {0, 1, -1},
		"256":                 make([]int, 256),
		"1000":                make([]int, 1000),
		"256, one not there":  append(make([]int, 255), 3),
		"255, last not there": append(make([]int, 254), 3),
	} {
		got, ok := Rows(m, l...)
		refused(t, what, got, ok)
	}
	got, ok := Rows(filled(255, 1), 255)
	refused(t, "255 of 255 rows", got, ok)
}

// P2.1: Same, Square

func TestSame(t *testing.T) {
	for what, pair := range map[string][2]Matrix{
		"nil":                {nil, nil},
		"nil and nothing":    {nil, {}},
		"nil row, empty row": {{nil, {1}}, {{}, {1}}},
		"one":                {{{1}}, {{1}}},
		"rows of any length": {{{1}, {1, 2}, nil}, {{1}, {1, 2}, {}}},
		"more than a matrix": {filled(300, 300), filled(300, 300)},
	} {
		if !Same(pair[0], pair[1]) || !Same(pair[1], pair[0]) {
			t.Errorf("%s: not the same", what)
		}
	}
	for what, pair := range map[string][2]Matrix{
		"nothing and an empty row": {nil, {{}}},
		"nothing and a nil row":    {{}, {nil}},
		"one row more":             {{{1}}, {{1}, {1}}},
		"one empty row more":       {{{1}}, {{1}, {}}},
		"one byte more":            {{{1}}, {{1, 0}}},
		"first byte":               {{{1, 2}, {3, 4}}, {{0, 2}, {3, 4}}},
		"last byte":                {{{1, 2}, {3, 4}}, {{1, 2}, {3, 5}}},
		"rows exchanged":           {{{1}, {2}}, {{2}, {1}}},
		"cut elsewhere":            {{{1}, {2, 3}}, {{1, 2}, {3}}},
		"a row of none":            {{{1}, {2}}, {{1}, nil}},
	} {
		if Same(pair[0], pair[1]) || Same(pair[1], pair[0]) {
			t.Errorf("%s: the same", what)
		}
	}
}

func TestSquare(t *testing.T) {
	for what, m := range notMatrices() {
		if Square(m) {
			t.Errorf("%s: square", what)
		}
	}
	for _, sides := range [][2]int{{1, 1}, {1, 2}, {2, 1}, {2, 2}, {3, 2}, {2, 3}, {254, 255}, {255, 254}, {255, 255}} {
		if got := Square(filled(sides[0], sides[1])); got != (sides[0] == sides[1]) {
			t.Errorf("Square of %v: %v", sides, got)
		}
	}
	if Square(bytesOf(256, 1)) || Square(Matrix{{1, 2}, {3}}) || Square(Matrix{{1, 2}, {3, 4, 5}}) {
		t.Error("no matrix, but square")
	}
	if !Square(Matrix{{0, 0}, {0, 0}}) {
		t.Error("zeros are not square")
	}
}

// P2.2

func TestSystematicExamples(t *testing.T) {
	if m, ok := Systematic(1, 2); !ok || !equal(m, Matrix{{1}, {1}, {1}}) {
		t.Errorf("Systematic(1, 2) = %v, %v", m, ok)
	}
	if m, ok := Systematic(2, 1); !ok || !equal(m, Matrix{{1, 0}, {0, 1}, {3, 2}}) {
		t.Errorf("Systematic(2, 1) = %v, %v", m, ok)
	}
}

// checkSystematic holds the code against its making: times the first rows of the powers, it is the powers again.
func checkSystematic(t *testing.T, k, m int) Matrix {
	t.Helper()
	code, ok := Systematic(k, m)
	if !ok || len(code) != k+m {
		t.Fatalf("Systematic(%d, %d): %d rows, %v", k, m, len(code), ok)
	}
	for r, row := range code {
		if len(row) != k {
			t.Fatalf("Systematic(%d, %d): row %d has %d columns", k, m, r, len(row))
		}
	}
	if !isUnit(code[:k], k) {
		t.Fatalf("Systematic(%d, %d): the first rows are not the unit", k, m)
	}
	powers := Vandermonde(k+m, k)
	if !equal(plainMul(code, powers[:k]), powers) {
		t.Fatalf("Systematic(%d, %d): not made of the powers", k, m)
	}
	return code
}

func TestSystematicAnyRowsHaveAnInverse(t *testing.T) {
	for k := 1; k <= 7; k++ {
		for m := 1; k+m <= 8; m++ {
			code := checkSystematic(t, k, m)
			for set := range uint(1) << (k + m) {
				if bits.OnesCount(set) == k {
					checkInverse(t, rowsOf(code, set))
				}
			}
		}
	}
}

// rowsOf is the rows whose bits are in set.
func rowsOf(code Matrix, set uint) Matrix {
	var rows Matrix
	for r, row := range code {
		if set>>r&1 == 1 {
			rows = append(rows, row)
		}
	}
	return rows
}

func TestSystematicAtTheLimits(t *testing.T) {
	source := rand.New(rand.NewSource(3))
	for _, sides := range [][2]int{{1, 254}, {254, 1}, {127, 128}, {2, 253}, {20, 235}, {17, 3}} {
		code := checkSystematic(t, sides[0], sides[1])
		for range 3 {
			var rows Matrix
			for _, r := range source.Perm(len(code))[:sides[0]] {
				rows = append(rows, code[r])
			}
			checkInverse(t, rows)
		}
	}
}

func TestSystematicRefuses(t *testing.T) {
	for _, sides := range [][2]int{
		{0, 0}, {0, 1}, {1, 0}, {-1, 2}, {2, -1}, {-1, -1}, {255, 0}, {0, 255}, {256, -1}, {-1, 256},
		{api.MaxShards, 1}, {1, api.MaxShards}, {api.MaxShards - 1, 2}, {2, api.MaxShards - 1}, {128, 128},
		{math.MaxInt, math.MaxInt}, {math.MaxInt, 1}, {1, math.MaxInt}, {math.MinInt, math.MinInt},
		{math.MinInt, math.MaxInt}, {math.MaxInt, math.MinInt}, {math.MinInt, 1}, {1, math.MinInt}, {1 << 62, 1 << 62},
		{257, 1}, {1, 257},
	} {
		m, ok := Systematic(sides[0], sides[1])
		refused(t, fmt.Sprint("Systematic", sides), m, ok)
	}
}

// R4, and the Ways: slices of slices, never shared

// roomy is m with spare room behind each row and behind the rows, all of it marked.
func roomy(m Matrix) Matrix {
	wide := make(Matrix, len(m), len(m)+2)
	for r, row := range m {
		wide[r] = append(append(make([]byte, 0, len(row)+4), row...), 201, 202, 203, 204)[:len(row)]
	}
	copy(wide[:cap(wide)][len(m):], Matrix{{205}, {206}})
	return wide
}

// untouched tells whether what roomy made of m is still so.
func untouched(m, wide Matrix) bool {
	for r, row := range m {
		if !bytes.Equal(wide[r][:cap(wide[r])][:len(row)+4], append(bytes.Clone(row), 201, 202, 203, 204)) {
			return false
		}
	}
	spare := wide[:cap(wide)][len(m):]
	return len(spare) == 2 && bytes.Equal(spare[0], []byte{205}) && bytes.Equal(spare[1], []byte{206})
}

// scribble writes over all of m, spare room too.
func scribble(m Matrix) {
	for _, row := range m {
		row = row[:cap(row)]
		for i := range row {
			row[i] = 99
		}
	}
	m = m[:cap(m)]
	for r := range m {
		m[r] = []byte{98}
	}
}

// checkApart tells whether two answers share memory with the arguments, with each other, or row with row.
func checkApart(t *testing.T, what string, call func(args []Matrix) Matrix, args ...Matrix) {
	t.Helper()
	wide := make([]Matrix, len(args))
	for i, a := range args {
		wide[i] = roomy(a)
	}
	first, second, want := call(wide), call(wide), call(args)
	if len(first) == 0 {
		t.Fatalf("%s: no answer", what)
	}
	scribble(first)
	if !equal(second, want) {
		t.Errorf("%s: two answers share memory, or are not alike", what)
	}
	for r := range second {
		row := second[r][:cap(second[r])]
		for i := range row {
			row[i] = 97
		}
		for other := r + 1; other < len(second); other++ {
			if !bytes.Equal(second[other], want[other]) {
				t.Errorf("%s: rows %d and %d share memory", what, r, other)
			}
		}
	}
	for i, a := range args {
		if !untouched(a, wide[i]) {
			t.Errorf("%s: argument %d is changed", what, i)
		}
	}
}

func TestNothingIsSharedOrChanged(t *testing.T) {
	a := Matrix{{0, 1, 2}, {3, 4, 5}, {6, 7, 9}}
	b := Matrix{{1, 2}, {3, 4}, {5, 6}}
	first := func(m Matrix, _ bool) Matrix { return m }
	checkApart(t, "Unit", func([]Matrix) Matrix { return Unit(3) })
	checkApart(t, "Vandermonde", func([]Matrix) Matrix { return Vandermonde(3, 4) })
	checkApart(t, "Systematic", func([]Matrix) Matrix { return first(Systematic(3, 4)) })
	checkApart(t, "Mul", func(l []Matrix) Matrix { return first(Mul(l[0], l[1])) }, a, b)
	checkApart(t, "Mul by the unit", func(l []Matrix) Matrix { return first(Mul(l[0], l[1])) }, a, Unit(3))
	checkApart(t, "Mul of the unit", func(l []Matrix) Matrix { return first(Mul(l[0], l[1])) }, Unit(3), a)
	checkApart(t, "Invert", func(l []Matrix) Matrix { return first(Invert(l[0])) }, a)
	checkApart(t, "Invert of the unit", func(l []Matrix) Matrix { return first(Invert(l[0])) }, Unit(3))
	checkApart(t, "Rows", func(l []Matrix) Matrix { return first(Rows(l[0], 2, 0, 2, 1)) }, b)
}

func TestRefusedCallsChangeNothing(t *testing.T) {
	singular, ragged := Matrix{{0, 1, 2}, {3, 4, 5}, {3, 5, 7}}, Matrix{{1, 2}, {3}}
	s, r := roomy(singular), roomy(ragged)
	Invert(s)
	Invert(r)
	Mul(s, r)
	Mul(r, s)
	Rows(s, 0, 3)
	Rows(r, 0)
	Same(s, r)
	Square(s)
	Square(r)
	if !untouched(singular, s) || !untouched(ragged, r) {
		t.Error("an argument is changed")
	}
}

func TestRowsKeepsTheNumbers(t *testing.T) {
	l := []int{2, 0, 1, 77, 78}
	Rows(Matrix{{1}, {2}, {3}}, l[:3]...)
	for i, want := range []int{2, 0, 1, 77, 78} {
		if l[i] != want {
			t.Errorf("number %d is now %d", i, l[i])
		}
	}
}

// One matrix whose rows are one row: what is answered of it shares none all the same.
func TestRowsThatShareMemory(t *testing.T) {
	row := []byte{1, 2}
	got, ok := Rows(Matrix{row, row}, 0, 1)
	if !ok || !equal(got, Matrix{{1, 2}, {1, 2}}) {
		t.Fatalf("Rows = %v, %v", got, ok)
	}
	got[0][0] = 9
	if row[0] != 1 || got[1][0] != 1 {
		t.Error("rows are shared")
	}
	product, ok := Mul(Matrix{row, row}, Matrix{row, row})
	if !ok || !equal(product, Matrix{{3, 6}, {3, 6}}) {
		t.Errorf("Mul = %v, %v", product, ok)
	}
	m := Matrix{{1, 2}, {3, 4}}
	if product, ok := Mul(m, m); !ok || !equal(product, plainMul(m, m)) {
		t.Errorf("the square of a matrix: %v, %v", product, ok)
	}
}
