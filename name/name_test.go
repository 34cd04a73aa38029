package name

import (
	"bytes"
	"encoding/hex"
	"math/rand"
	"regexp"
	"slices"
	"strings"
	"testing"
	"unicode/utf8"
	"unsafe"

	"strongbox/api"
)

// bucketForm is the form of P6.1 by other means; length is asked aside.
var bucketForm = regexp.MustCompile(`^[a-z0-9]+([-.][a-z0-9]+)*\z`)

func bucketByForm(s string) bool {
	return len(s) >= api.MinBucket && len(s) <= api.MaxBucket && bucketForm.MatchString(s)
}

func wantBucket(t *testing.T, s string, want bool) {
	t.Helper()
	if got := Bucket(s); got != want {
		t.Errorf("Bucket(%q) = %v", s, got)
	}
}

func wantKey(t *testing.T, s string, want bool) {
	t.Helper()
	if got := Key(s); got != want {
		t.Errorf("Key(%q) = %v", s, got)
	}
}

// P6.1: the lengths, the limits and one beside each.
func TestBucketLength(t *testing.T) {
	for n := range 3 * api.MaxBucket {
		wantBucket(t, strings.Repeat("a", n), n >= api.MinBucket && n <= api.MaxBucket)
		wantBucket(t, strings.Repeat("7", n), n >= api.MinBucket && n <= api.MaxBucket)
	}
	if api.MinBucket != 3 || api.MaxBucket != 63 {
		t.Error("the limits are others")
	}
	for _, n := range []int{1 << 16, 1 << 20} {
		wantBucket(t, strings.Repeat("a", n), false)
	}
}

// P6.1: each byte value at each kind of place, alone and within a name.
func TestBucketBytes(t *testing.T) {
	for c := range 256 {
		sign := string([]byte{byte(c)})
		plain := c >= 'a' && c <= 'z' || c >= '0' && c <= '9'
		mark := c == '-' || c == '.'
		wantBucket(t, sign, false)
		for _, fill := range []string{"ab", "09", strings.Repeat("z", api.MaxBucket-1)} {
			wantBucket(t, sign+fill, plain)
			wantBucket(t, fill+sign, plain)
			wantBucket(t, fill[:1]+sign+fill[1:], plain || mark)
			wantBucket(t, fill[:len(fill)/2]+sign+fill[len(fill)/2:], plain || mark)
		}
		wantBucket(t, sign+sign+sign, plain)
	}
}

// P6.1: no two of - and . beside each other, wherever they stand.
func TestBucketPairs(t *testing.T) {
	for _, pair := range []string{"--", "-.", ".-", ".."} {
		for before := range 4 {
			for behind := range 4 {
				wantBucket(t, strings.Repeat("a", before)+pair+strings.Repeat("b", behind), false)
			}
		}
		wantBucket(t, "a"+pair[:1]+"b"+pair[1:]+"c", true)
		wantBucket(t, "ab"+pair[:1]+"0"+pair[1:]+"9", true)
		wantBucket(t, pair, false)
		wantBucket(t, pair[:1]+"a"+pair[1:], false)
		wantBucket(t, pair+pair[:1], false)
	}
}

// P6.1: what is no ASCII is no sign of a bucket's name, though it is a letter
// or a digit, and though its bytes count as signs would.
func TestBucketOtherSigns(t *testing.T) {
	for _, s := range []string{"aéc", "éab", "abé", "é", "ßßß", "a０c", "٣٣٣", "ａｂｃ", "a\u2010b", "a\u3002b", "a\ufffdb", "日本語", "a\u0131c"} {
		wantBucket(t, s, false)
	}
	for _, s := range []string{"ab\xff", "\xffab", "a\xffb", "a\xc3b", "ab\xc3", "a\xed\xa0\x80b", "a\xc1\xa1b"} {
		wantBucket(t, s, false)
	}
	for r := rune(128); r <= utf8.MaxRune; r += 251 {
		if s := "a" + string(r) + "b"; Bucket(s) {
			t.Fatalf("Bucket(%q)", s)
		}
	}
	// A sign whose number is that of a small letter but for its high bits.
	for _, r := range []rune{0x100, 0x200, 0x10000} {
		wantBucket(t, "a"+string(r+'a')+"b", false)
		wantBucket(t, "a"+string(r+'.')+"b", false)
	}
}

// P6.1: all texts of few signs, and drawn ones, against the form.
func TestBucketAllShort(t *testing.T) {
	signs := "az09-.A_ /{`:@,"
	texts := []string{""}
	for range 4 {
		var longer []string
		for _, s := range texts {
			for _, c := range signs {
				longer = append(longer, s+string(c))
			}
		}
		for _, s := range longer {
			if Bucket(s) != bucketByForm(s) {
				t.Fatalf("Bucket(%q) = %v", s, Bucket(s))
			}
		}
		texts = longer
	}
	draw := rand.New(rand.NewSource(6))
	for range 20000 {
		b := make([]byte, 1+draw.Intn(api.MaxBucket+2))
		for i := range b {
			b[i] = "abcdefghijklmnopqrstuvwxyz0123456789-."[draw.Intn(38)]
		}
		if s := string(b); Bucket(s) != bucketByForm(s) {
			t.Fatalf("Bucket(%q) = %v", s, Bucket(s))
		}
	}
}

// P6.1: a key's length is told in bytes.
func TestKeyLength(t *testing.T) {
	if api.MaxName != 200 {
		t.Error("the limit is another")
	}
	for _, sign := range []string{"k", "é", "日", "😀"} {
		for n := range 2 * api.MaxName {
			size := n * len(sign)
			wantKey(t, strings.Repeat(sign, n), size >= 1 && size <= api.MaxName)
		}
	}
	wantKey(t, strings.Repeat("k", 1<<20), false)
	wantKey(t, strings.Repeat("\xff", 1<<20), false)
}

// P6.1: a key of MaxName bytes that ends within a sign is none, and neither
// is the longer one that has that sign whole.
func TestKeyCutAtLimit(t *testing.T) {
	for _, sign := range []string{"é", "日", "😀"} {
		for kept := 1; kept < len(sign); kept++ {
			fill := strings.Repeat("k", api.MaxName-kept)
			wantKey(t, fill+sign[:kept], false)
			wantKey(t, fill+sign, false)
			wantKey(t, fill, true)
		}
		fill := strings.Repeat("k", api.MaxName-len(sign))
		wantKey(t, fill+sign, true)
	}
}

// P6.1: each byte value within a key, at each kind of place.
func TestKeyBytes(t *testing.T) {
	for c := range 256 {
		sign := string([]byte{byte(c)})
		may := c >= 32 && c < 127
		for _, around := range [][2]string{{"", ""}, {"", "ab"}, {"ab", ""}, {"a", "b"}, {"é", "é"}, {strings.Repeat("k", api.MaxName-1), ""}, {"", strings.Repeat("k", api.MaxName-1)}} {
			wantKey(t, around[0]+sign+around[1], may)
		}
	}
}

// P6.1: each sign that there is, written as it should be.
func TestKeySigns(t *testing.T) {
	for r := rune(0); r <= utf8.MaxRune; r++ {
		if r >= 0xd800 && r <= 0xdfff {
			continue
		}
		if s := string(r); Key(s) != (r >= 32 && r != 127) {
			t.Fatalf("Key(%q) = %v", s, Key(s))
		}
	}
	for _, s := range []string{"\ufffd", "a\ufffdb", "\u0080", "\u009f", "\u00ff", "\ufeff", "\uffff", "\U0010ffff", "a b", " ", "/", "..", "a\u0301"} {
		wantKey(t, s, true)
	}
}

// P6.1: what is no UTF-8.
func TestKeyNoUTF8(t *testing.T) {
	wrong := []string{
		"\x80", "\xbf", "\xc3", "\xe6", "\xf0", "\xff", "\xfe", // a byte alone
		"\xe6\x97", "\xf0\x9f", "\xf0\x9f\x98", // a sign cut short
		"\xc3a", "\xe6\x97a", "\xc3\xc3\xa9", "\xc3\xa9\xa9",
		"\xc0\x80", "\xc0\xa0", "\xc1\x81", "\xc1\xbf", // longer than need be
		"\xe0\x80\x80", "\xe0\x81\x81", "\xe0\x9f\xbf", "\xf0\x80\x81\x81", "\xf0\x8f\xbf\xbf",
		"\xed\xa0\x80", "\xed\xaf\xbf", "\xed\xb0\x80", "\xed\xbf\xbf", "\xed\xa0\xbd\xed\xb8\x80", // surrogates
		"\xf4\x90\x80\x80", "\xf5\x80\x80\x80", "\xf7\xbf\xbf\xbf", "\xf8\x88\x80\x80\x80", "\xfc\x84\x80\x80\x80\x80", // above the last sign
	}
	for _, s := range wrong {
		for _, around := range [][2]string{{"", ""}, {"a", ""}, {"", "a"}, {"a", "b"}, {"\ufffd", "\ufffd"}} {
			wantKey(t, around[0]+s+around[1], false)
		}
	}
	for r := 0xd800; r <= 0xdfff; r++ {
		wantKey(t, string([]byte{0xe0 | byte(r>>12), 0x80 | byte(r>>6&63), 0x80 | byte(r&63)}), false)
	}
	for _, s := range []string{"\xed\x9f\xbf", "\xee\x80\x80", "\xf4\x8f\xbf\xbf", "\xf0\x90\x80\x80", "\xe0\xa0\x80", "\xc2\x80", "\xef\xbf\xbd"} {
		wantKey(t, s, true)
	}
}

// P6.1: all texts of two bytes, and those of three that begin no ASCII sign.
func TestKeyAllShort(t *testing.T) {
	byForm := func(s string) bool {
		return utf8.ValidString(s) && !strings.ContainsFunc(s, func(r rune) bool { return r < ' ' || r == '\x7f' })
	}
	for a := range 256 {
		for b := range 256 {
			two := string([]byte{byte(a), byte(b)})
			if Key(two) != byForm(two) {
				t.Fatalf("Key(%q) = %v", two, Key(two))
			}
			for c := 0; a >= 0xe0 && a < 0xf0 && c < 256; c++ {
				if s := two + string([]byte{byte(c)}); Key(s) != byForm(s) {
					t.Fatalf("Key(%q) = %v", s, Key(s))
				}
			}
		}
	}
}

// P6.2: Path, and Unpath as the way back, of each byte and of drawn texts.
func TestPath(t *testing.T) {
	texts := []string{"", "ab", "é", "\x00\xff", "日本語", "\xed\xa0\x80", strings.Repeat("\xff", api.MaxName+1), strings.Repeat("k", 1<<16)}
	for c := range 256 {
		texts = append(texts, string([]byte{byte(c)}), string([]byte{'a', byte(c), 255 - byte(c)}))
	}
	draw := rand.New(rand.NewSource(62))
	for n := range 300 {
		b := make([]byte, n)
		draw.Read(b)
		texts = append(texts, string(b))
	}
	for _, s := range texts {
		p := Path(s)
		if p != hex.EncodeToString([]byte(s)) {
			t.Fatalf("Path(%q) = %q", s, p)
		}
		if back, ok := Unpath(p); back != s || !ok {
			t.Fatalf("Unpath(%q) = %q, %v", p, back, ok)
		}
	}
}

// P6.2: Unpath of what is the Path of no text.
func TestUnpathRefused(t *testing.T) {
	wrong := []string{"6", "616", "61626", "4A", "A4", "AA", "6G", "G6", "4a4B", "4B4a", " 61", "61 ", "6 ", " 6", "0x", "0x61", "-1", "+1", "é", "aé", "6\x00", "\x006", "\xff\xff", "61\n", "６１", strings.Repeat("6", 1<<16+1)}
	for c := range 256 {
		if strings.IndexByte("0123456789abcdef", byte(c)) >= 0 {
			continue
		}
		sign := string([]byte{byte(c)})
		wrong = append(wrong, sign+"1", "1"+sign, "61"+sign+"1", "611"+sign, sign+"161", sign+sign)
	}
	for _, s := range wrong {
		if text, ok := Unpath(s); text != "" || ok {
			t.Errorf("Unpath(%q) = %q, %v", s, text, ok)
		}
	}
	if text, ok := Unpath(""); text != "" || !ok {
		t.Errorf("Unpath of the empty text = %q, %v", text, ok)
	}
}

// P6.2: what Unpath answers has that Path, and no other text is taken.
func TestUnpathAllShort(t *testing.T) {
	taken := 0
	for a := range 256 {
		for b := range 256 {
			s := string([]byte{byte(a), byte(b)})
			text, ok := Unpath(s)
			if ok {
				taken++
			}
			if ok && Path(text) != s {
				t.Errorf("Unpath(%q) = %q, %v", s, text, ok)
			}
		}
	}
	if taken != 256 {
		t.Errorf("%d texts of two signs are taken", taken)
	}
}

// some texts, each of which is held against each.
func someTexts() []string {
	l := []string{"", "a", "aa", "ab", "b", "z", "A", "é", "éa", "日", "😀", "\ufffd", "\x00", "a\x00", "a\x7f", "a\x80", "\x7f", "\x80", "\xc3", "\xfe", "\xff", "\xff\x00", "\xff\xff", "a\xff", "a\xff\xff", "a\xfe", "a\xfe\xff", strings.Repeat("k", 300), strings.Repeat("k", 300) + "a"}
	for c := range 256 {
		l = append(l, string([]byte{'k', byte(c)}))
	}
	return l
}

// P6.2: Less by bytes, a text against itself and one that begins with it too.
func TestLess(t *testing.T) {
	for _, a := range someTexts() {
		for _, b := range someTexts() {
			if Less(a, b) != (bytes.Compare([]byte(a), []byte(b)) < 0) {
				t.Fatalf("Less(%q, %q) = %v", a, b, Less(a, b))
			}
		}
	}
	for _, pair := range [][2]string{{"", "a"}, {"a", "aa"}, {"Z", "a"}, {"z", "é"}, {"\x7f", "\x80"}, {"\uffff", "\U00010000"}} {
		if !Less(pair[0], pair[1]) || Less(pair[1], pair[0]) || Less(pair[0], pair[0]) {
			t.Errorf("Less of %q", pair)
		}
	}
}

// P6.2: Prefix, of bytes within a sign too.
func TestPrefix(t *testing.T) {
	for _, s := range someTexts() {
		for _, p := range someTexts() {
			if Prefix(s, p) != bytes.HasPrefix([]byte(s), []byte(p)) {
				t.Fatalf("Prefix(%q, %q) = %v", s, p, Prefix(s, p))
			}
		}
		for end := range len(s) + 1 {
			if !Prefix(s, s[:end]) || Prefix(s[:end], s) != (end == len(s)) {
				t.Fatalf("Prefix of %q and its first %d bytes", s, end)
			}
		}
	}
	if !Prefix("é", "\xc3") || Prefix("Ab", "a") || Prefix("ba", "a") {
		t.Error("Prefix")
	}
}

// P6.2: Next at its edges.
func TestNext(t *testing.T) {
	for _, pair := range [][2]string{
		{"", ""}, {"\xff", ""}, {"\xff\xff", ""}, {strings.Repeat("\xff", 300), ""},
		{"ab", "ac"}, {"a\xff", "b"}, {"a\xff\xff", "b"}, {"a\xfe", "a\xff"}, {"a\xfe\xff", "a\xff"},
		{"\xffa", "\xffb"}, {"\xffa\xff", "\xffb"}, {"\xfe", "\xff"}, {"\xfe\xff", "\xff"}, {"\xff\xfe", "\xff\xff"},
		{"\x00", "\x01"}, {"a\x00", "a\x01"}, {"a\x00\xff", "a\x01"}, {"\x7f", "\x80"}, {"é", "\xc3\xaa"}, {"a\xffb", "a\xffc"},
	} {
		if got := Next(pair[0]); got != pair[1] {
			t.Errorf("Next(%q) = %q, want %q", pair[0], got, pair[1])
		}
	}
}

// P6.2: Next is above all that begin with p, and there is no lesser such text:
// held against all texts of few bytes from an alphabet with both ends in it.
func TestNextIsTheLeast(t *testing.T) {
	all := []string{""}
	for from := 0; len(all) < 1000; {
		end := len(all)
		for _, s := range all[from:end] {
			for _, c := range []byte{0, 1, 2, 97, 98, 254, 255} {
				all = append(all, s+string([]byte{c}))
			}
		}
		from = end
	}
	slices.Sort(all)
	for _, p := range all {
		next := Next(p)
		for _, s := range all {
			below := next == "" || Less(s, next)
			if Prefix(s, p) && !below {
				t.Fatalf("Next(%q) = %q, not above %q", p, next, s)
			}
			if below && !Prefix(s, p) && Less(p, s) {
				t.Fatalf("Next(%q) = %q, though %q is above p and does not begin with it", p, next, s)
			}
		}
	}
}

func TestExamples(t *testing.T) {
	wantBucket(t, "a.b", true)
	wantBucket(t, "a-.b", false)
	wantKey(t, "é", true)
	if p := Path("ab"); p != "6162" {
		t.Errorf("Path: %q", p)
	}
	if n := Next("ab"); n != "ac" {
		t.Errorf("Next: %q", n)
	}
}

// laid makes a text that stands in a row of bytes, so that a change of the one
// shows in the other.
func laid(s string) (string, []byte) {
	row := append([]byte(s), bytes.Repeat([]byte{0xa5}, 16)...)
	return unsafe.String(&row[0], len(s)), row
}

// Nothing that is handed in is changed, and no answer shares memory with it.
func TestNothingChangedNorShared(t *testing.T) {
	for _, s := range []string{"ab", "a.b", "6162", "a\xff", "\xff", "", "00ff", strings.Repeat("a", 64)} {
		text, row := laid(s)
		other, otherRow := laid(s + "b")
		before, otherBefore := bytes.Clone(row), bytes.Clone(otherRow)
		Bucket(text)
		Key(text)
		Less(text, other)
		Prefix(other, text)
		path, next := Path(text), Next(text)
		back, _ := Unpath(text)
		if !bytes.Equal(row, before) || !bytes.Equal(otherRow, otherBefore) {
			t.Errorf("%q was changed", s)
		}
		wasPath, wasNext, wasBack := strings.Clone(path), strings.Clone(next), strings.Clone(back)
		for i := range row {
			row[i] = '#'
		}
		if path != wasPath || next != wasNext || back != wasBack {
			t.Errorf("an answer for %q shares its memory", s)
		}
	}
}
