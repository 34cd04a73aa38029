package rs

import (
	"bytes"
	"fmt"
	"math"
	"math/bits"
	"math/rand"
	"testing"

	"strongbox/api"
	"strongbox/gf"
	"strongbox/matrix"
)

// made is New where it must not refuse.
func made(t *testing.T, k, m int) *Code {
	t.Helper()
	c, err := New(k, m)
	if c == nil || err != api.OK {
		t.Fatalf("New(%d, %d): %v, %d", k, m, c, err)
	}
	return c
}

// drawn is rows of a source with a given beginning.
func drawn(seed int64, rows, length int) [][]byte {
	source := rand.New(rand.NewSource(seed))
	l := make([][]byte, rows)
	for i := range l {
		l[i] = make([]byte, length)
		for j := range l[i] {
			l[i][j] = byte(source.Intn(256))
		}
	}
	return l
}

// encoded is Encode of drawn rows.
func encoded(t *testing.T, c *Code, length int) [][]byte {
	t.Helper()
	all, err := c.Encode(drawn(int64(c.K()*1000+c.N()), c.K(), length))
	if err != api.OK {
		t.Fatalf("Encode: %d", err)
	}
	return all
}

// plainEncode sums the products byte by byte, without a table.
func plainEncode(t *testing.T, k, m int, data [][]byte) [][]byte {
	t.Helper()
	code, ok := matrix.Systematic(k, m)
	if !ok {
		t.Fatalf("Systematic(%d, %d) has none", k, m)
	}
	all := copies(data)
	for r := k; r < k+m; r++ {
		row := make([]byte, len(data[0]))
		for b := range row {
			for i := range data {
				row[b] ^= gf.Mul(code[r][i], data[i][b])
			}
		}
		all = append(all, row)
	}
	return all
}

// copies are rows of their own; nil stays nil.
func copies(rows [][]byte) [][]byte {
	l := make([][]byte, len(rows))
	for i, row := range rows {
		l[i] = bytes.Clone(row)
	}
	return l
}

// equal holds rows against each other; of length 0 and nil are one.
func equal(a, b [][]byte) bool {
	if len(a) != len(b) {
		return false
	}
	for i := range a {
		if !bytes.Equal(a[i], b[i]) {
			return false
		}
	}
	return true
}

// without is the rows with those missing whose bit is set: by nil, or by length 0 where the number of the row and kind are odd together.
func without(all [][]byte, lost uint, kind int) [][]byte {
	l := copies(all)
	for i := range l {
		if lost>>i&1 == 0 {
			continue
		}
		l[i] = nil
		if (i+kind)%2 == 1 {
			l[i] = []byte{}
		}
	}
	return l
}

// refused is a list that must not be there, beside an error that must.
func refused(t *testing.T, what string, rows [][]byte, err, want api.Errno) {
	t.Helper()
	if err != want || len(rows) != 0 {
		t.Errorf("%s: %v, %d; want none, %d", what, rows, err, want)
	}
}

func TestNewAtTheLimits(t *testing.T) {
	for _, x := range [][2]int{{1, 1}, {1, 2}, {2, 1}, {1, 254}, {254, 1}, {127, 128}, {128, 127}, {200, 55}} {
		c := made(t, x[0], x[1])
		if c.K() != x[0] || c.N() != x[0]+x[1] {
			t.Errorf("New(%d, %d): K %d, N %d", x[0], x[1], c.K(), c.N())
		}
	}
}

func TestNewRefuses(t *testing.T) {
	for _, x := range [][2]int{
		{0, 1}, {1, 0}, {0, 0}, {-1, 1}, {1, -1}, {-1, -1}, {-1, 3}, {3, -1}, {255, 0}, {0, 255},
		{255, 1}, {1, 255}, {128, 128}, {200, 56}, {256, 1}, {1, 256}, {257, -2}, {-2, 257},
		{math.MaxInt, 1}, {1, math.MaxInt}, {math.MaxInt, math.MaxInt}, {math.MinInt, math.MinInt},
		{math.MinInt, math.MaxInt}, {math.MaxInt, math.MinInt}, {1 << 32, 1}, {1<<32 + 1, 1}, {1, 1<<32 + 1}, {1 << 62, 1 << 62},
	} {
		if c, err := New(x[0], x[1]); c != nil || err != api.ErrArg {
			t.Errorf("New(%d, %d): %v, %d; want nil, ErrArg", x[0], x[1], c, err)
		}
	}
}

func TestExample(t *testing.T) {
	c := made(t, 2, 1)
	all, err := c.Encode([][]byte{{1, 2}, {3, 4}})
	if want := [][]byte{{1, 2}, {3, 4}, {5, 14}}; err != api.OK || !equal(all, want) {
		t.Errorf("%v, %d; want %v", all, err, want)
	}
}

func TestEncodeIsTheMatrixTimesTheData(t *testing.T) {
	for _, x := range [][2]int{{1, 1}, {1, 3}, {2, 1}, {2, 2}, {3, 2}, {4, 2}, {5, 7}, {10, 4}, {1, 254}, {254, 1}, {127, 128}} {
		c := made(t, x[0], x[1])
		for _, length := range []int{0, 1, 2, 3, 17, 100} {
			data := drawn(int64(length), x[0], length)
			all, err := c.Encode(data)
			if want := plainEncode(t, x[0], x[1], data); err != api.OK || !equal(all, want) {
				t.Errorf("New(%d, %d), rows of %d: not the matrix times the data (%d)", x[0], x[1], length, err)
			}
			for i, row := range all {
				if row == nil {
					t.Errorf("New(%d, %d), rows of %d: row %d is told missing", x[0], x[1], length, i)
				}
			}
		}
	}
}

func TestEncodeOfEveryByte(t *testing.T) {
	every := make([]byte, 256)
	turned := make([]byte, 256)
	for i := range every {
		every[i], turned[i] = byte(i), byte(i*7+3)
	}
	data := [][]byte{every, turned, every}
	all, err := made(t, 3, 3).Encode(data)
	if want := plainEncode(t, 3, 3, data); err != api.OK || !equal(all, want) {
		t.Errorf("not the matrix times the data (%d)", err)
	}
}

func TestEncodeTakesNilForARowOfLengthZero(t *testing.T) {
	c := made(t, 2, 2)
	for _, data := range [][][]byte{{nil, nil}, {{}, {}}, {nil, {}}, {{}, nil}} {
		all, err := c.Encode(data)
		if err != api.OK || !equal(all, make([][]byte, 4)) {
			t.Errorf("%v: %v, %d", data, all, err)
		}
	}
}

func TestEncodeRefuses(t *testing.T) {
	c := made(t, 3, 2)
	for what, data := range map[string][][]byte{
		"nil":               nil,
		"no rows":           {},
		"one less":          {{1}, {2}},
		"one more":          {{1}, {2}, {3}, {4}},
		"N":                 {{1}, {2}, {3}, {4}, {5}},
		"one less, empty":   {{}, {}},
		"first longer":      {{1, 2}, {3}, {4}},
		"second longer":     {{1}, {2, 3}, {4}},
		"last longer":       {{1}, {2}, {3, 4}},
		"first of nothing":  {{}, {1}, {2}},
		"second of nothing": {{1}, {}, {2}},
		"first nil":         {nil, {1}, {2}},
		"last nil":          {{1}, {2}, nil},
	} {
		all, err := c.Encode(data)
		refused(t, what, all, err, api.ErrArg)
	}
}

func TestRebuildOfEveryChoiceOfMissingRows(t *testing.T) {
	for k := 1; k <= 5; k++ {
		for m := 1; m <= 4; m++ {
			c := made(t, k, m)
			for _, length := range []int{1, 2, 5} {
				all := encoded(t, c, length)
				for lost := uint(0); lost < 1<<(k+m); lost++ {
					checkLoss(t, c, all, lost)
				}
			}
		}
	}
}

// checkLoss rebuilds without the rows of lost, told missing in each way.
func checkLoss(t *testing.T, c *Code, all [][]byte, lost uint) {
	t.Helper()
	n := c.N() - bits.OnesCount(lost)
	for kind := range 2 {
		back, err := c.Rebuild(without(all, lost, kind))
		what := fmt.Sprintf("%d of %d, K %d, without %b", n, c.N(), c.K(), lost)
		switch {
		case n == 0:
			if err != api.OK || !equal(back, make([][]byte, c.N())) {
				t.Fatalf("%s: %v, %d; want rows of length 0", what, back, err)
			}
		case n < c.K():
			refused(t, what, back, err, api.ErrShort)
		case err != api.OK || !equal(back, all):
			t.Fatalf("%s: %v, %d; want %v", what, back, err, all)
		}
	}
}

func TestRebuildAtTheLimits(t *testing.T) {
	source := rand.New(rand.NewSource(3))
	for _, x := range [][2]int{{1, 254}, {254, 1}, {127, 128}, {128, 127}} {
		c := made(t, x[0], x[1])
		all := encoded(t, c, 3)
		for try := range 4 {
			order := source.Perm(c.N())
			switch try {
			case 0: // the data is lost ahead of the parity
				for i := range order {
					order[i] = i
				}
			case 1: // and behind it
				for i := range order {
					order[i] = c.N() - 1 - i
				}
			}
			left := copies(all)
			for _, i := range order[:x[1]] {
				left[i] = nil
			}
			back, err := c.Rebuild(left)
			if err != api.OK || !equal(back, all) {
				t.Errorf("New(%d, %d), try %d: not what Encode made (%d)", x[0], x[1], try, err)
			}
			left[order[x[1]]] = nil
			back, err = c.Rebuild(left)
			want := api.ErrShort
			if x[0] == 1 { // then nothing is left: all rows are of length 0
				want = api.OK
				if !equal(back, make([][]byte, c.N())) {
					t.Errorf("New(%d, %d), try %d: of nothing %v", x[0], x[1], try, back)
				}
				back = nil
			}
			refused(t, fmt.Sprintf("New(%d, %d), one more", x[0], x[1]), back, err, want)
		}
	}
}

func TestRebuildOfRowsOfLengthZero(t *testing.T) {
	c := made(t, 2, 2)
	for kinds := range 16 {
		shards := make([][]byte, 4)
		for i := range shards {
			if kinds>>i&1 == 1 {
				shards[i] = []byte{}
			}
		}
		back, err := c.Rebuild(shards)
		if err != api.OK || !equal(back, make([][]byte, 4)) {
			t.Errorf("%04b: %v, %d", kinds, back, err)
		}
		for i, row := range back {
			if row == nil {
				t.Errorf("%04b: row %d is told missing", kinds, i)
			}
		}
	}
}

func TestRebuildTakesNilAndLengthZeroForMissing(t *testing.T) {
	c := made(t, 2, 2)
	all := encoded(t, c, 3)
	for _, pair := range [][2][]byte{{nil, nil}, {{}, {}}, {nil, {}}, {{}, nil}} {
		back, err := c.Rebuild([][]byte{pair[0], all[1], pair[1], all[3]})
		if err != api.OK || !equal(back, all) {
			t.Errorf("%#v: %v, %d; want %v", pair, back, err, all)
		}
		back, err = c.Rebuild([][]byte{pair[0], all[1], pair[1], nil})
		refused(t, "one there", back, err, api.ErrShort)
	}
}

func TestRebuildRefuses(t *testing.T) {
	c := made(t, 3, 2)
	for what, shards := range map[string][][]byte{
		"nil":                       nil,
		"no rows":                   {},
		"one less":                  {{1}, {2}, {3}, {4}},
		"one more":                  {{1}, {2}, {3}, {4}, {5}, {6}},
		"one more, missing":         {{1}, {2}, {3}, {4}, {5}, nil},
		"K":                         {{1}, {2}, {3}},
		"one less, of nothing":      {{}, {}, {}, nil},
		"one more, of nothing":      make([][]byte, 6),
		"too few and not N":         {{1}, nil, nil, nil},
		"first longer":              {{1, 2}, {3}, {4}, {5}, {6}},
		"last longer":               {{1}, {2}, {3}, {4}, {5, 6}},
		"last longer, behind K":     {{1}, {2}, {3}, nil, {5, 6}},
		"first shorter":             {{1}, {2, 3}, {4, 5}, nil, nil},
		"unlike behind missing":     {nil, {}, {1}, {2, 3}, {4}},
		"too few, of unlike length": {{1}, {2, 3}, nil, nil, nil},
		"two, the last longer":      {nil, nil, nil, {1}, {2, 3}},
	} {
		back, err := c.Rebuild(shards)
		refused(t, what, back, err, api.ErrArg)
	}
	for what, shards := range map[string][][]byte{
		"one":              {{1}, nil, nil, nil, nil},
		"the last one":     {nil, nil, nil, nil, {1}},
		"one less than K":  {{1}, {2}, nil, nil, nil},
		"two of parity":    {nil, nil, nil, {1}, {2}},
		"others of length": {{1}, {}, {2}, {}, {}},
		"mixed":            {{1}, {}, {2}, nil, {}},
	} {
		back, err := c.Rebuild(shards)
		refused(t, what, back, err, api.ErrShort)
	}
}

func TestRebuildTakesWhatIsThereAsItIs(t *testing.T) {
	c := made(t, 2, 2)
	wrong := [][]byte{{1, 2}, {3, 4}, {9, 9}, {8, 8}}
	back, err := c.Rebuild(wrong)
	if err != api.OK || !equal(back, wrong) {
		t.Errorf("%v, %d; want %v", back, err, wrong)
	}
}

// The rows behind the first k that are there do not count, whatever is in them; each of the first k does.
func TestRebuildUsesTheFirstRowsThatAreThere(t *testing.T) {
	c := made(t, 3, 4)
	all := encoded(t, c, 4)
	for lost := uint(1); lost < 1<<7; lost++ {
		if bits.OnesCount(lost) > 4 {
			continue
		}
		for rotten := range all {
			if lost>>rotten&1 == 0 {
				checkRot(t, c, all, lost, rotten)
			}
		}
	}
}

// checkRot rebuilds with one wrong row.
func checkRot(t *testing.T, c *Code, all [][]byte, lost uint, rotten int) {
	t.Helper()
	shards := without(all, lost, 0)
	shards[rotten][2] ^= 0x55
	used := rotten-bits.OnesCount(lost&(1<<rotten-1)) < c.K()
	back, err := c.Rebuild(shards)
	if err != api.OK || len(back) != len(all) {
		t.Fatalf("without %07b, row %d wrong: %d", lost, rotten, err)
	}
	for i := range all {
		right := bytes.Equal(back[i], all[i])
		if lost>>i&1 == 0 {
			if !bytes.Equal(back[i], shards[i]) {
				t.Errorf("without %07b, row %d wrong: row %d is not as it was", lost, rotten, i)
			}
		} else if right == used {
			t.Errorf("without %07b, row %d wrong: row %d hangs on other rows than the first", lost, rotten, i)
		}
	}
}

func TestVerify(t *testing.T) {
	for _, x := range [][2]int{{1, 1}, {2, 1}, {3, 2}, {1, 254}, {254, 1}} {
		c := made(t, x[0], x[1])
		for _, length := range []int{0, 1, 2} {
			all := encoded(t, c, length)
			if ok, err := c.Verify(all); !ok || err != api.OK {
				t.Errorf("New(%d, %d), rows of %d: %v, %d", x[0], x[1], length, ok, err)
			}
			for i := range all {
				for j := range all[i] {
					all[i][j] ^= 1
					if ok, err := c.Verify(all); ok || err != api.OK {
						t.Errorf("New(%d, %d), byte %d of row %d wrong: %v, %d", x[0], x[1], j, i, ok, err)
					}
					all[i][j] ^= 1
				}
			}
		}
	}
}

func TestVerifyOfRowsOfLengthZero(t *testing.T) {
	c := made(t, 2, 1)
	for _, shards := range [][][]byte{{nil, nil, nil}, {{}, {}, {}}, {nil, {}, {}}, {{}, {}, nil}} {
		if ok, err := c.Verify(shards); !ok || err != api.OK {
			t.Errorf("%#v: %v, %d", shards, ok, err)
		}
	}
}

func TestVerifyRefuses(t *testing.T) {
	c := made(t, 2, 2)
	for what, shards := range map[string][][]byte{
		"nil":                  nil,
		"no rows":              {},
		"K":                    {{0}, {0}},
		"one less":             {{0}, {0}, {0}},
		"one more":             {{0}, {0}, {0}, {0}, {0}},
		"one more, of nothing": make([][]byte, 5),
		"first longer":         {{0, 0}, {0}, {0}, {0}},
		"data longer":          {{0, 0}, {0, 0}, {0}, {0}},
		"parity longer":        {{0}, {0}, {0, 0}, {0, 0}},
		"last longer":          {{0}, {0}, {0}, {0, 0}},
		"last nil":             {{0}, {0}, {0}, nil},
		"first nil":            {nil, {0}, {0}, {0}},
		"last of nothing":      {{0}, {0}, {0}, {}},
	} {
		if ok, err := c.Verify(shards); ok || err != api.ErrArg {
			t.Errorf("%s: %v, %d; want false, ErrArg", what, ok, err)
		}
	}
}

func TestCodesThatNewDidNotMake(t *testing.T) {
	for what, c := range map[string]*Code{"nil": nil, "empty": {}} {
		for _, rows := range [][][]byte{nil, {}, {{1}}, {nil}, {{1}, {2}, {3}}} {
			all, err := c.Encode(rows)
			refused(t, what, all, err, api.ErrArg)
			all, err = c.Rebuild(rows)
			refused(t, what, all, err, api.ErrArg)
			if ok, err := c.Verify(rows); ok || err != api.ErrArg {
				t.Errorf("%s: Verify: %v, %d", what, ok, err)
			}
		}
		if c.K() != 0 || c.N() != 0 {
			t.Errorf("%s: K %d, N %d", what, c.K(), c.N())
		}
	}
}

// spacious is the rows in one memory, each with spare room that reaches into the next.
func spacious(rows [][]byte) (laid [][]byte, memory []byte) {
	memory = make([]byte, 0, 4096)
	for _, row := range rows {
		memory = append(append(memory, row...), 0xA5, 0xA6)
	}
	from := 0
	for _, row := range rows {
		l := memory[from : from+len(row)]
		if row == nil {
			l = nil
		}
		laid = append(laid, l)
		from += len(row) + 2
	}
	return laid, memory
}

// checkUntouched calls, and tells if what was handed in is changed, or shared with what is answered.
func checkUntouched(t *testing.T, what string, rows [][]byte, call func([][]byte) [][]byte) {
	t.Helper()
	laid, memory := spacious(rows)
	list := append(make([][]byte, 0, len(laid)+1), laid...)
	list[:len(laid)+1][len(laid)] = []byte{77}
	before := bytes.Clone(memory)
	answer := call(list)
	want := copies(answer)
	for i := range memory {
		if memory[i] != before[i] {
			t.Fatalf("%s: what was handed in is changed", what)
		}
	}
	for i := range rows {
		if !bytes.Equal(list[i], rows[i]) || (list[i] == nil) != (rows[i] == nil) {
			t.Fatalf("%s: the list that was handed in is changed", what)
		}
	}
	if spare := list[:len(laid)+1][len(laid)]; !bytes.Equal(spare, []byte{77}) {
		t.Fatalf("%s: the list's spare room is changed", what)
	}
	clear(memory)
	clear(list)
	if !equal(answer, want) {
		t.Fatalf("%s: the answer shares memory with what was handed in", what)
	}
	for i := range answer {
		scribble(answer[i])
		want[i] = bytes.Clone(answer[i])
		if !equal(answer, want) {
			t.Fatalf("%s: row %d of the answer shares memory with another", what, i)
		}
	}
	if !bytes.Equal(memory, make([]byte, len(memory))) {
		t.Fatalf("%s: the answer shares memory with what was handed in", what)
	}
}

// scribble writes all over a row, its spare room too.
func scribble(row []byte) {
	row = row[:cap(row)]
	for i := range row {
		row[i] ^= 0xFF
	}
}

func TestNothingHandedInIsChangedOrShared(t *testing.T) {
	c := made(t, 3, 2)
	all := encoded(t, c, 5)
	encode := func(l [][]byte) [][]byte { a, _ := c.Encode(l); return a }
	rebuild := func(l [][]byte) [][]byte { a, _ := c.Rebuild(l); return a }
	verify := func(l [][]byte) [][]byte { _, _ = c.Verify(l); return nil }
	for range 2 { // what is written into an answer changes no later one
		checkUntouched(t, "Encode", all[:3], encode)
		checkUntouched(t, "Encode, refused", all[:2], encode)
		for lost := uint(0); lost < 32; lost++ {
			for kind := range 2 {
				checkUntouched(t, fmt.Sprintf("Rebuild without %05b", lost), without(all, lost, kind), rebuild)
			}
		}
		checkUntouched(t, "Rebuild, refused", all[:4], rebuild)
		checkUntouched(t, "Verify", all, verify)
		checkUntouched(t, "Verify, refused", all[1:], verify)
	}
	if again := encoded(t, c, 5); !equal(again, all) {
		t.Error("what was written into an answer changed the code")
	}
}

// One row handed in at several places is no reason to answer it so.
func TestOneRowHandedInTwice(t *testing.T) {
	c := made(t, 3, 2)
	row := []byte{1, 2, 3}
	checkApart := func(what string, all [][]byte, err api.Errno) {
		t.Helper()
		if err != api.OK || len(all) != 5 {
			t.Fatalf("%s: %v, %d", what, all, err)
		}
		want := copies(all)
		for i := range all {
			all[i][0] ^= 0xFF
			want[i][0] ^= 0xFF
			if !equal(all, want) {
				t.Errorf("%s: row %d shares memory with another", what, i)
			}
		}
	}
	all, err := c.Encode([][]byte{row, row, row})
	checkApart("Encode", all, err)
	all, err = c.Rebuild([][]byte{nil, row, row, row, nil})
	checkApart("Rebuild", all, err)
	if !bytes.Equal(row, []byte{1, 2, 3}) {
		t.Errorf("the row is now %v", row)
	}
}

func TestLongRows(t *testing.T) {
	c := made(t, 4, 2)
	all := encoded(t, c, api.MaxShard)
	back, err := c.Rebuild([][]byte{nil, all[1], all[2], nil, all[4], all[5]})
	if err != api.OK || !equal(back, all) {
		t.Errorf("not what Encode made (%d)", err)
	}
	if ok, err := c.Verify(all); !ok || err != api.OK {
		t.Errorf("Verify: %v, %d", ok, err)
	}
}
