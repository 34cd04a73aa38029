package page

import (
	"bytes"
	"fmt"
	"math"
	"math/rand"
	"slices"
	"strings"
	"testing"

	"strongbox/api"
)

// entry makes one whose Size and Sum tell it from any other one.
func entry(key string, id int, marker, latest bool) api.Entry {
	v := api.Version{ID: id, Marker: marker}
	if !marker {
		v.Size, v.Sum = 7*len(key)+id&1023, 2654435761*uint32(id+len(key))
	}
	return api.Entry{Key: key, Ver: v, Latest: latest}
}

// history makes the entries of a key whose ids are told from the greatest on.
func history(key string, marker bool, ids ...int) []api.Entry {
	var l []api.Entry
	for i, id := range ids {
		l = append(l, entry(key, id, marker && i == 0, i == 0))
	}
	return l
}

// plain makes n keys with a version each, in order.
func plain(n int) []api.Entry {
	var l []api.Entry
	for i := range n {
		l = append(l, entry(fmt.Sprintf("k%05d", i), 1+i, false, true))
	}
	return l
}

// mixed has keys of which one begins with another, that have the bytes 0 and 255, that are no UTF-8; some end in a Marker, some have no entry that is Latest.
func mixed() []api.Entry {
	return slices.Concat(
		history("b", false, 20),
		history("a", false, 9, 5, 3),
		history("ab", true, 8, 7),
		history("abc", false, 31, 30, 6, 2),
		history("a\x00", false, 4),
		history("a\x00b", false, 11, 10),
		history("a\xff", false, 12),
		history("a\xff\xff", false, 13, 1),
		history("\xff", false, 40),
		history("\xff\xff\x00", true, 41),
		history("\x00", false, 42, 17),
		history("\x00\x00", false, 43),
		history("é", false, 50, 49),
		history("\xc3", false, 51),
		history("日本", false, 52),
		[]api.Entry{entry("ac", 15, false, false), entry("ac", 14, false, false)},
		[]api.Entry{entry("none", 16, true, false)},
	)
}

// shuffled is mixed in some order.
func shuffled() []api.Entry {
	l := mixed()
	rand.New(rand.NewSource(8)).Shuffle(len(l), func(i, j int) { l[i], l[j] = l[j], l[i] })
	return l
}

// ahead is the order of P8.1 by the library's means.
func ahead(a, b api.Entry) bool {
	c := bytes.Compare([]byte(a.Key), []byte(b.Key))
	return c < 0 || c == 0 && a.Ver.ID > b.Ver.ID
}

// ranked puts each entry where the number of those ahead of it says.
func ranked(all []api.Entry) []api.Entry {
	l := make([]api.Entry, len(all))
	for i, e := range all {
		place := 0
		for j, o := range all {
			if ahead(o, e) || !ahead(e, o) && j < i {
				place++
			}
		}
		l[place] = e
	}
	return l
}

// slowly reads P8.1 and P8.2 word by word, of a ranked list with at most one entry that is Latest a key.
func slowly(all []api.Entry, a Ask, versions bool) Answer {
	var l []api.Entry
	for _, e := range all {
		c := bytes.Compare([]byte(e.Key), []byte(a.From))
		after := a.From == "" || c > 0
		if versions {
			after = after || c == 0 && e.Ver.ID < a.FromID
		} else {
			after = after && e.Latest && !e.Ver.Marker
		}
		if after && bytes.HasPrefix([]byte(e.Key), []byte(a.Prefix)) {
			l = append(l, e)
		}
	}
	if len(l) <= a.Most {
		return Answer{List: l}
	}
	w := Answer{List: l[:a.Most], More: true, Key: l[a.Most-1].Key}
	if versions {
		w.ID = l[a.Most-1].Ver.ID
	}
	return w
}

func same(a, b Answer) bool {
	return slices.Equal(a.List, b.List) && a.More == b.More && a.Key == b.Key && a.ID == b.ID
}

func show(l []api.Entry) string {
	var s []string
	for _, e := range l {
		s = append(s, fmt.Sprintf("%q%d", e.Key, e.Ver.ID))
	}
	return strings.Join(s, " ")
}

func told(a Answer) string {
	return fmt.Sprintf("[%s] %v %q %d", show(a.List), a.More, a.Key, a.ID)
}

func asked(a Ask) string {
	return fmt.Sprintf("%q from %q %d, %d", a.Prefix, a.From, a.FromID, a.Most)
}

// wantPages holds both pages of an Ask against the slow reading of the list, which is handed in ranked, too.
func wantPages(t *testing.T, all, inOrder []api.Entry, a Ask) {
	t.Helper()
	if got, e := Objects(all, a); e != api.OK || !same(got, slowly(inOrder, a, false)) {
		t.Fatalf("Objects(%s; %s) = %s, %d; want %s", show(all), asked(a), told(got), e, told(slowly(inOrder, a, false)))
	}
	if got, e := Versions(all, a); e != api.OK || !same(got, slowly(inOrder, a, true)) {
		t.Fatalf("Versions(%s; %s) = %s, %d; want %s", show(all), asked(a), told(got), e, told(slowly(inOrder, a, true)))
	}
}

// wantRefused asks for ErrArg, and all else zero.
func wantRefused(t *testing.T, all []api.Entry, a Ask) {
	t.Helper()
	for what, page := range map[string]func([]api.Entry, Ask) (Answer, api.Errno){"Objects": Objects, "Versions": Versions} {
		if got, e := page(all, a); e != api.ErrArg || !same(got, Answer{}) {
			t.Errorf("%s of %d entries, %s: %s, %d", what, len(all), asked(a), told(got), e)
		}
	}
}

func wantObjects(t *testing.T, all []api.Entry, a Ask, want string) {
	t.Helper()
	if got, e := Objects(all, a); e != api.OK || told(got) != want {
		t.Errorf("Objects(%s) = %s, %d; want %s", asked(a), told(got), e, want)
	}
}

func wantVersions(t *testing.T, all []api.Entry, a Ask, want string) {
	t.Helper()
	if got, e := Versions(all, a); e != api.OK || told(got) != want {
		t.Errorf("Versions(%s) = %s, %d; want %s", asked(a), told(got), e, want)
	}
}

// orders calls f with a list in each order.
func orders(l []api.Entry, f func([]api.Entry)) {
	var place func(int)
	place = func(n int) {
		if n == len(l) {
			f(l)
			return
		}
		for i := n; i < len(l); i++ {
			l[n], l[i] = l[i], l[n]
			place(n + 1)
			l[n], l[i] = l[i], l[n]
		}
	}
	place(0)
}

// The chapter's example, and the page behind it.
func TestExample(t *testing.T) {
	all := []api.Entry{entry("b", 2, false, true), entry("a", 1, false, true)}
	wantObjects(t, all, Ask{Most: 1}, `["a"1] true "a" 0`)
	wantObjects(t, all, Ask{From: "a", Most: 1}, `["b"2] false "" 0`)
	wantVersions(t, all, Ask{Most: 1}, `["a"1] true "a" 1`)
	wantVersions(t, all, Ask{From: "a", FromID: 1, Most: 1}, `["b"2] false "" 0`)
}

// P8.1, Sort: each order of a list is put into the one order.
func TestSortOrders(t *testing.T) {
	want := []api.Entry{
		entry("a", 5, false, true), entry("a", 3, false, false), entry("a\x00", 9, true, true),
		entry("ab", 4, false, true), entry("b", 7, false, false), entry("b", 1, false, true), entry("é", 2, false, true),
	}
	orders(slices.Clone(want), func(l []api.Entry) {
		if got := Sort(l); !slices.Equal(got, want) {
			t.Fatalf("Sort(%s) = %s", show(l), show(got))
		}
	})
}

// P8.1, Sort: keys byte by byte, one that another begins with ahead of it, also with the bytes 0, 127, 128 and 255.
func TestSortKeys(t *testing.T) {
	keys := []string{"", "\x00", "\x00\x00", "\x00\xff", "\x01", "A", "Z", "a", "a\x00", "a ", "aa", "aé", "a\xff", "b", "\x7f", "\x80", "\xc3", "é", "é\x00", "日", "\xff", "\xff\x00", "\xff\xff"}
	for _, id := range []int{0, 1, 9} {
		var l, want []api.Entry
		for i, k := range keys {
			want = append(want, entry(k, (i*id)%7, false, true))
		}
		for i := range keys {
			l = append(l, want[len(keys)-1-i])
		}
		if got := Sort(l); !slices.Equal(got, want) {
			t.Errorf("Sort = %s", show(got))
		}
	}
}

// P8.1, Sort: the greatest id first, though their difference is no int.
func TestSortIDs(t *testing.T) {
	want := []api.Entry{}
	for _, id := range []int{math.MaxInt, math.MaxInt - 1, math.MaxInt32, 1, 0, -1, math.MinInt32, math.MinInt + 1, math.MinInt} {
		want = append(want, entry("k", id, id == 1, id == 0))
	}
	l := slices.Clone(want)
	for range l {
		l = append(l[1:], l[0])
		slices.Reverse(l)
		if got := Sort(l); !slices.Equal(got, want) {
			t.Errorf("Sort = %s", show(got))
		}
	}
}

// P8.1, Sort: none, one, many; those alike in key and id stay as they came.
func TestSortLengths(t *testing.T) {
	if len(Sort(nil)) != 0 || len(Sort([]api.Entry{})) != 0 {
		t.Error("there are entries in Sort of none")
	}
	draw := rand.New(rand.NewSource(1))
	for n := range 80 {
		var l []api.Entry
		for i := range n {
			e := entry(strings.Repeat("k", draw.Intn(5)), draw.Intn(6)-2, draw.Intn(2) == 0, draw.Intn(2) == 0)
			e.Ver.Size = i
			l = append(l, e)
		}
		if got := Sort(l); !slices.Equal(got, ranked(l)) {
			t.Fatalf("Sort(%s) = %s", show(l), show(got))
		}
	}
}

// P8.1, P8.2: Most at its limits, and one past each.
func TestMost(t *testing.T) {
	if api.MaxPage != 1000 {
		t.Error("the limit is another")
	}
	for _, n := range []int{0, 1, 2, 999, 1000, 1001} {
		all := plain(n)
		for _, most := range []int{0, -1, -1000, math.MinInt, math.MinInt32, 1001, 1002, 2000, 1 << 32, 1<<32 + 1, math.MaxInt} {
			wantRefused(t, all, Ask{Most: most})
			wantRefused(t, all, Ask{Prefix: "k", From: "k00000", FromID: 1, Most: most})
			wantRefused(t, all, Ask{Prefix: "x", From: "\xff", FromID: -1, Most: most})
		}
		for _, most := range []int{1, 2, 998, 999, 1000} {
			wantPages(t, all, all, Ask{Most: most})
		}
	}
	wantRefused(t, nil, Ask{})
	wantRefused(t, mixed(), Ask{})
}

// P8.1, P8.2: no entry, one, as many as Most, one more.
func TestHowMany(t *testing.T) {
	for _, most := range []int{1, 2, 3, 10, api.MaxPage - 1, api.MaxPage} {
		for _, n := range []int{0, 1, most - 1, most, most + 1, 2*most + 1} {
			all := plain(n)
			slices.Reverse(all)
			objects, _ := Objects(all, Ask{Most: most})
			versions, _ := Versions(all, Ask{Most: most})
			key, id := "", 0
			if n > most {
				key, id = fmt.Sprintf("k%05d", most-1), most
			}
			if len(objects.List) != min(n, most) || objects.More != (n > most) || objects.Key != key || objects.ID != 0 {
				t.Errorf("%d entries, Most %d: Objects has %d, %v %q %d", n, most, len(objects.List), objects.More, objects.Key, objects.ID)
			}
			if len(versions.List) != min(n, most) || versions.More != (n > most) || versions.Key != key || versions.ID != id {
				t.Errorf("%d entries, Most %d: Versions has %d, %v %q %d", n, most, len(versions.List), versions.More, versions.Key, versions.ID)
			}
		}
	}
	for _, none := range [][]api.Entry{nil, {}} {
		for _, a := range []Ask{{Most: 1}, {Prefix: "a", From: "b", FromID: 3, Most: 1000}} {
			wantObjects(t, none, a, `[] false "" 0`)
			wantVersions(t, none, a, `[] false "" 0`)
		}
	}
}

// P8.1, P8.2: what is told to be behind the page has the Prefix too, and of Objects is Latest and no Marker.
func TestMoreOfWhatFits(t *testing.T) {
	all := slices.Concat(history("a", false, 3, 2), history("b", true, 5, 4), history("c", false, 6), []api.Entry{entry("d", 7, false, false)})
	wantObjects(t, all, Ask{Most: 2}, `["a"3 "c"6] false "" 0`)
	wantObjects(t, all, Ask{Most: 1}, `["a"3] true "a" 0`)
	wantObjects(t, all, Ask{Prefix: "a", Most: 1}, `["a"3] false "" 0`)
	wantVersions(t, all, Ask{Prefix: "a", Most: 2}, `["a"3 "a"2] false "" 0`)
	wantVersions(t, all, Ask{Prefix: "a", Most: 1}, `["a"3] true "a" 3`)
	wantVersions(t, all, Ask{Most: 5}, `["a"3 "a"2 "b"5 "b"4 "c"6] true "c" 6`)
	wantVersions(t, all, Ask{Most: 6}, `["a"3 "a"2 "b"5 "b"4 "c"6 "d"7] false "" 0`)
}

// P8.1, P8.2: a Prefix that is empty, that no key has, that is a key itself, of bytes that are no UTF-8.
func TestPrefix(t *testing.T) {
	all := shuffled()
	wantObjects(t, all, Ask{Prefix: "x", Most: 9}, `[] false "" 0`)
	wantObjects(t, all, Ask{Prefix: "abcd", Most: 9}, `[] false "" 0`)
	wantObjects(t, all, Ask{Prefix: "abc", Most: 9}, `["abc"31] false "" 0`)
	wantObjects(t, all, Ask{Prefix: "ab", Most: 9}, `["abc"31] false "" 0`)
	wantObjects(t, all, Ask{Prefix: "a\x00", Most: 9}, `["a\x00"4 "a\x00b"11] false "" 0`)
	wantObjects(t, all, Ask{Prefix: "\x00", Most: 9}, `["\x00"42 "\x00\x00"43] false "" 0`)
	wantObjects(t, all, Ask{Prefix: "\xff", Most: 9}, `["\xff"40] false "" 0`)
	wantObjects(t, all, Ask{Prefix: "\xc3", Most: 9}, `["\xc3"51 "é"50] false "" 0`)
	wantObjects(t, all, Ask{Prefix: "a\xff", Most: 1}, `["a\xff"12] true "a\xff" 0`)
	wantObjects(t, all, Ask{Prefix: "A", Most: 9}, `[] false "" 0`)
	wantVersions(t, all, Ask{Prefix: "x", Most: 9}, `[] false "" 0`)
	wantVersions(t, all, Ask{Prefix: "ab", Most: 3}, `["ab"8 "ab"7 "abc"31] true "abc" 31`)
	wantVersions(t, all, Ask{Prefix: "abc", Most: 4}, `["abc"31 "abc"30 "abc"6 "abc"2] false "" 0`)
	wantVersions(t, all, Ask{Prefix: "\xff", Most: 9}, `["\xff"40 "\xff\xff\x00"41] false "" 0`)
	wantVersions(t, all, Ask{Prefix: "\xc3", Most: 9}, `["\xc3"51 "é"50 "é"49] false "" 0`)
	wantVersions(t, all, Ask{Prefix: "\xe6\x97", Most: 9}, `["日本"52] false "" 0`)
}

// P8.1, P8.2: a Prefix and a From at once, with the one below, at, within or above the other.
func TestPrefixWithFrom(t *testing.T) {
	all := shuffled()
	wantObjects(t, all, Ask{Prefix: "a", From: "\x00", Most: 2}, `["a"9 "a\x00"4] true "a\x00" 0`)
	wantObjects(t, all, Ask{Prefix: "a", From: "a", Most: 2}, `["a\x00"4 "a\x00b"11] true "a\x00b" 0`)
	wantObjects(t, all, Ask{Prefix: "a", From: "aa", Most: 9}, `["abc"31 "a\xff"12 "a\xff\xff"13] false "" 0`)
	wantObjects(t, all, Ask{Prefix: "a", From: "b", Most: 9}, `[] false "" 0`)
	wantVersions(t, all, Ask{Prefix: "a", From: "\x00", FromID: 20, Most: 1}, `["a"9] true "a" 9`)
	wantVersions(t, all, Ask{Prefix: "a", From: "a", FromID: 4, Most: 2}, `["a"3 "a\x00"4] true "a\x00" 4`)
	wantVersions(t, all, Ask{Prefix: "a", From: "b", FromID: 99, Most: 9}, `[] false "" 0`)
	wantVersions(t, all, Ask{Prefix: "abc", From: "ab", FromID: 99, Most: 1}, `["abc"31] true "abc" 31`)
	wantVersions(t, all, Ask{Prefix: "b", From: "abc", FromID: 6, Most: 9}, `["b"20] false "" 0`)
}

// P8.1, P8.2: From empty is ahead of all, an empty key too, which is above no text.
func TestFromEmpty(t *testing.T) {
	all := slices.Concat(history("\x00", false, 4), history("", false, 3, 2))
	for _, id := range []int{0, 1, 2, 3, 4, -1} {
		wantObjects(t, all, Ask{FromID: id, Most: 9}, `[""3 "\x00"4] false "" 0`)
		wantObjects(t, all, Ask{FromID: id, Most: 1}, `[""3] true "" 0`)
		wantVersions(t, all, Ask{FromID: id, Most: 9}, `[""3 ""2 "\x00"4] false "" 0`)
		wantVersions(t, all, Ask{FromID: id, Most: 1}, `[""3] true "" 3`)
	}
}

// P8.1: From empty, a key that is there, one that is not, one above all; what FromID is does not matter.
func TestObjectsFrom(t *testing.T) {
	all := slices.Concat(history("a", false, 5, 3), history("b", true, 6), history("c", false, 9, 8, 7))
	for _, id := range []int{0, 1, 4, 8, 9, 10, -1, math.MaxInt, math.MinInt} {
		wantObjects(t, all, Ask{FromID: id, Most: 9}, `["a"5 "c"9] false "" 0`)
		wantObjects(t, all, Ask{From: "a", FromID: id, Most: 9}, `["c"9] false "" 0`)
		wantObjects(t, all, Ask{From: "a\x00", FromID: id, Most: 9}, `["c"9] false "" 0`)
		wantObjects(t, all, Ask{From: "b", FromID: id, Most: 9}, `["c"9] false "" 0`)
		wantObjects(t, all, Ask{From: "bz", FromID: id, Most: 9}, `["c"9] false "" 0`)
		wantObjects(t, all, Ask{From: "c", FromID: id, Most: 9}, `[] false "" 0`)
		wantObjects(t, all, Ask{From: "\xff", FromID: id, Most: 9}, `[] false "" 0`)
		wantObjects(t, all, Ask{From: "A", FromID: id, Most: 1}, `["a"5] true "a" 0`)
		wantObjects(t, all, Ask{From: "\x00", FromID: id, Most: 1}, `["a"5] true "a" 0`)
	}
}

// P8.2: FromID at, below and above the ids of From's key; From empty with a FromID; From a key that is not there.
func TestVersionsFrom(t *testing.T) {
	all := slices.Concat(history("a", false, 5, 3), history("b", true, 6, 4), history("c", false, 9, 8, 7))
	for id, want := range map[int]string{
		math.MaxInt: `["b"6 "b"4 "c"9] true "c" 9`, 7: `["b"6 "b"4 "c"9] true "c" 9`,
		6: `["b"4 "c"9 "c"8] true "c" 8`, 5: `["b"4 "c"9 "c"8] true "c" 8`,
		4: `["c"9 "c"8 "c"7] false "" 0`, 3: `["c"9 "c"8 "c"7] false "" 0`, 0: `["c"9 "c"8 "c"7] false "" 0`,
		-1: `["c"9 "c"8 "c"7] false "" 0`, math.MinInt: `["c"9 "c"8 "c"7] false "" 0`,
	} {
		wantVersions(t, all, Ask{From: "b", FromID: id, Most: 3}, want)
		wantVersions(t, all, Ask{FromID: id, Most: 2}, `["a"5 "a"3] true "a" 3`)
		wantVersions(t, all, Ask{From: "aa", FromID: id, Most: 1}, `["b"6] true "b" 6`)
		wantVersions(t, all, Ask{From: "b\x00", FromID: id, Most: 9}, `["c"9 "c"8 "c"7] false "" 0`)
		wantVersions(t, all, Ask{From: "d", FromID: id, Most: 9}, `[] false "" 0`)
		wantVersions(t, all, Ask{From: "\xff", FromID: id, Most: 9}, `[] false "" 0`)
	}
	wantVersions(t, all, Ask{From: "c", FromID: 7, Most: 9}, `[] false "" 0`)
	wantVersions(t, all, Ask{From: "c", FromID: 8, Most: 9}, `["c"7] false "" 0`)
	below := history("k", false, 0, -5, math.MinInt)
	wantVersions(t, below, Ask{From: "k", FromID: 0, Most: 9}, fmt.Sprintf(`["k"-5 "k"%d] false "" 0`, math.MinInt))
	wantVersions(t, below, Ask{From: "k", FromID: -5, Most: 9}, fmt.Sprintf(`["k"%d] false "" 0`, math.MinInt))
	wantVersions(t, below, Ask{From: "k", FromID: math.MinInt, Most: 9}, `[] false "" 0`)
	wantVersions(t, below, Ask{Most: 1}, `["k"0] true "k" 0`)
}

// P8.1: a key whose latest entry is a Marker, or that has none that is Latest, is no object; what is Latest is told by the entry, not by its id. P8.2 lists them all.
func TestLatest(t *testing.T) {
	all := slices.Concat(
		history("a", true, 5, 3),
		[]api.Entry{entry("b", 9, false, false), entry("b", 8, true, false)},
		[]api.Entry{entry("c", 7, true, false), entry("c", 2, false, true)},
		[]api.Entry{entry("d", 6, false, false), entry("d", 4, true, true)},
	)
	orders(all[:6], func([]api.Entry) { // those of a, b and c, within the whole list
		wantObjects(t, all, Ask{Most: 1}, `["c"2] false "" 0`)
		wantVersions(t, all, Ask{Most: 9}, `["a"5 "a"3 "b"9 "b"8 "c"7 "c"2 "d"6 "d"4] false "" 0`)
	})
	wantObjects(t, history("a", true, 1), Ask{Most: 1}, `[] false "" 0`)
	wantVersions(t, history("a", true, 1), Ask{Most: 1}, `["a"1] false "" 0`)
	wantObjects(t, []api.Entry{entry("a", 1, false, false)}, Ask{Most: 1}, `[] false "" 0`)
}

// P8.1: of each key one entry: of several that are Latest the first one in order is taken for the key, so that a walk passes none over.
func TestSeveralLatest(t *testing.T) {
	all := []api.Entry{
		entry("b", 3, false, true), entry("b", 4, false, true), entry("a", 9, false, true), entry("a", 7, true, true),
		entry("c", 1, false, true), entry("c", 2, true, true), entry("d", 5, false, true),
	}
	wantObjects(t, all, Ask{Most: 9}, `["a"9 "b"4 "d"5] false "" 0`)
	wantObjects(t, all, Ask{Most: 2}, `["a"9 "b"4] true "b" 0`)
	wantObjects(t, all, Ask{From: "b", Most: 2}, `["d"5] false "" 0`)
	wantVersions(t, all, Ask{Most: 9}, `["a"9 "a"7 "b"4 "b"3 "c"2 "c"1 "d"5] false "" 0`)
}

// P8.1, P8.2: some ten thousand Asks of one list, against the slow reading.
func TestAllAsks(t *testing.T) {
	all := shuffled()
	inOrder := ranked(all)
	texts := []string{"", "\x00", "\x00\x00", "a", "a\x00", "a\x00b", "aa", "ab", "abc", "abcd", "ac", "a\xff", "a\xff\xff", "b", "none", "zz", "\xc3", "é", "\xe6\x97", "日本", "\xff", "\xff\xff", "\xff\xff\x00", "\xff\xff\xff"}
	for _, prefix := range texts {
		for _, from := range texts {
			for _, id := range []int{0, 1, 5, 8, 9, 10, 49, 50, 99, -1} {
				for _, most := range []int{1, 2, 7, len(all) - 1, len(all), len(all) + 1} {
					wantPages(t, all, inOrder, Ask{Prefix: prefix, From: from, FromID: id, Most: most})
				}
			}
		}
	}
}

// drawnHistory makes versions of few keys, in any order.
func drawnHistory(draw *rand.Rand) []api.Entry {
	var all []api.Entry
	for _, key := range []string{"a", "a\x00", "aa", "ab", "b", "ba", "\xff", "\xffa", "é"} {
		var ids []int
		for id := 20; id > 0; id-- {
			if draw.Intn(8) == 0 {
				ids = append(ids, id)
			}
		}
		l := history(key, draw.Intn(3) == 0, ids...)
		if len(l) > 0 && draw.Intn(8) == 0 {
			l[0].Latest = false
		}
		all = append(all, l...)
	}
	draw.Shuffle(len(all), func(i, j int) { all[i], all[j] = all[j], all[i] })
	return all
}

// P8.1, P8.2: drawn lists and Asks, against the slow reading.
func TestDrawnAsks(t *testing.T) {
	draw := rand.New(rand.NewSource(2))
	texts := []string{"", "", "a", "a\x00", "aa", "ab", "b", "c", "\xff", "\xc3", "é"}
	for range 20000 {
		all := drawnHistory(draw)
		wantPages(t, all, ranked(all), Ask{
			Prefix: texts[draw.Intn(len(texts))],
			From:   texts[draw.Intn(len(texts))],
			FromID: draw.Intn(23) - 1,
			Most:   1 + draw.Intn(len(all)+2),
		})
	}
}

// walk goes from page to page, each of what list answers then, and tells all that it saw.
func walk(t *testing.T, page func([]api.Entry, Ask) (Answer, api.Errno), list func() []api.Entry, a Ask) []api.Entry {
	t.Helper()
	var seen []api.Entry
	for range 4000 {
		all := list()
		got, e := page(all, a)
		if e != api.OK || len(got.List) > a.Most || got.More && len(got.List) < a.Most || !got.More && (got.Key != "" || got.ID != 0) {
			t.Fatalf("%s: %s, %d", asked(a), told(got), e)
		}
		seen = append(seen, got.List...)
		if !got.More {
			return seen
		}
		a.From, a.FromID = got.Key, got.ID
	}
	t.Fatalf("%s: the walk has no end", asked(a))
	return nil
}

func still(all []api.Entry) func() []api.Entry {
	return func() []api.Entry { return all }
}

// P8.3: walks with each Most, with each Prefix.
func TestWalks(t *testing.T) {
	all := shuffled()
	inOrder := ranked(all)
	for _, prefix := range []string{"", "a", "ab", "a\x00", "\xff", "\xc3", "x"} {
		objects := slowly(inOrder, Ask{Prefix: prefix, Most: len(all)}, false).List
		versions := slowly(inOrder, Ask{Prefix: prefix, Most: len(all)}, true).List
		if prefix == "" && (len(objects) != 13 || len(versions) != len(all)) {
			t.Fatalf("%d objects, %d versions", len(objects), len(versions))
		}
		for most := 1; most <= len(all)+1; most++ {
			a := Ask{Prefix: prefix, Most: most}
			if seen := walk(t, Objects, still(all), a); !slices.Equal(seen, objects) {
				t.Errorf("%s: Objects: %s", asked(a), show(seen))
			}
			if seen := walk(t, Versions, still(all), a); !slices.Equal(seen, versions) {
				t.Errorf("%s: Versions: %s", asked(a), show(seen))
			}
		}
	}
}

// P8.3: walks through more than two of the longest pages.
func TestLongWalks(t *testing.T) {
	all := plain(2*api.MaxPage + 1)
	for _, e := range plain(api.MaxPage) {
		e.Ver.ID, e.Latest = -e.Ver.ID, false
		all = append(all, e)
	}
	for _, most := range []int{300, 333, api.MaxPage - 1, api.MaxPage} {
		if seen := walk(t, Objects, still(all), Ask{Most: most}); !slices.Equal(seen, all[:2*api.MaxPage+1]) {
			t.Errorf("Most %d: %d objects", most, len(seen))
		}
		seen := walk(t, Versions, still(all), Ask{Most: most})
		if len(seen) != len(all) || !slices.IsSortedFunc(seen, strictly) {
			t.Errorf("Most %d: %d versions", most, len(seen))
		}
	}
}

// strictly is the order of P8.1 for the library, in which none is like another.
func strictly(a, b api.Entry) int {
	if ahead(a, b) {
		return -1
	}
	return 1
}

// P8.3: the token is a key, no place: what comes ahead of it, or goes there, moves nothing, nor does it matter if what it names is gone.
func TestWalkBetweenPages(t *testing.T) {
	before := slices.Concat(history("b", false, 5, 3), history("d", false, 6, 4), history("f", false, 9, 8))
	objects, _ := Objects(before, Ask{Most: 2})
	versions, _ := Versions(before, Ask{Most: 3})
	if told(objects) != `["b"5 "d"6] true "d" 0` || told(versions) != `["b"5 "b"3 "d"6] true "d" 6` {
		t.Fatalf("%s, %s", told(objects), told(versions))
	}
	next := Ask{From: objects.Key, FromID: versions.ID, Most: 9}

	come := slices.Concat(before, history("a", false, 11), history("c", false, 12), history("e", false, 13))
	wantObjects(t, come, next, `["e"13 "f"9] false "" 0`)
	wantVersions(t, come, next, `["d"4 "e"13 "f"9 "f"8] false "" 0`)

	gone := slices.Concat(history("f", false, 9, 8))
	wantObjects(t, gone, next, `["f"9] false "" 0`)
	wantVersions(t, gone, next, `["f"9 "f"8] false "" 0`)

	renewed := slices.Concat(history("b", true, 15), history("d", false, 14, 4), history("f", false, 16, 8))
	wantObjects(t, renewed, next, `["f"16] false "" 0`)
	wantVersions(t, renewed, next, `["d"4 "f"16 "f"8] false "" 0`)

	wantObjects(t, nil, next, `[] false "" 0`)
	wantVersions(t, nil, next, `[] false "" 0`)
}

// restless answers a list that is another one at each call, and what of it was there at all calls.
type restless struct {
	draw      *rand.Rand
	all, kept []api.Entry
}

func (r *restless) list() []api.Entry {
	for range 3 {
		if r.draw.Intn(2) == 0 {
			key := string(rune('a'+r.draw.Intn(6))) + string(rune('a'+r.draw.Intn(6)))
			fits := func(e api.Entry) bool { return e.Key == key }
			if !slices.ContainsFunc(r.all, fits) {
				r.all = append(r.all, history(key, false, 30+r.draw.Intn(9), 1+r.draw.Intn(9))...)
			}
		} else if len(r.all) > 0 {
			i := r.draw.Intn(len(r.all))
			r.all = slices.Delete(r.all, i, i+1)
		}
	}
	there := func(e api.Entry) bool { return !slices.Contains(r.all, e) }
	r.kept = slices.DeleteFunc(r.kept, there)
	return slices.Clone(r.all)
}

// P8.3: where entries come and go between two pages, what was there all the while is seen, once, and all that is seen is in order.
func TestRestlessWalks(t *testing.T) {
	for seed := range int64(400) {
		for _, versions := range []bool{false, true} {
			draw := rand.New(rand.NewSource(seed))
			r := &restless{draw: draw}
			for range 5 {
				r.list()
			}
			r.kept = slices.Clone(r.all)
			page := Objects
			if versions {
				page = Versions
			}
			seen := walk(t, page, r.list, Ask{Most: 1 + draw.Intn(4)})
			if !slices.IsSortedFunc(seen, strictly) {
				t.Fatalf("seed %d: out of order: %s", seed, show(seen))
			}
			for _, e := range r.kept {
				if (versions || e.Latest) && !slices.Contains(seen, e) {
					t.Fatalf("seed %d: %s was passed over: %s", seed, show([]api.Entry{e}), show(seen))
				}
			}
		}
	}
}

// roomy answers the list with spare room behind it, and that whole row.
func roomy(l []api.Entry) ([]api.Entry, []api.Entry) {
	row := slices.Clone(l)
	for i := range 9 {
		row = append(row, entry("spare", i, false, true))
	}
	return row[:len(l)], row
}

func spoil(l []api.Entry) {
	l = l[:cap(l)]
	for i := range l {
		l[i] = entry("spoiled", -1, true, true)
	}
}

// asks are such that the list is answered whole, in part, and refused.
func asks() []Ask {
	return []Ask{{Most: 1}, {Most: 5}, {Most: 1000}, {Most: 0}, {Most: 1001}, {Prefix: "a", Most: 2}, {From: "ab", FromID: 8, Most: 3}, {From: "\xff\xff\xff", Most: 1}}
}

// R4: nothing that is handed in is changed, its spare room included.
func TestNothingIsChanged(t *testing.T) {
	for _, l := range [][]api.Entry{nil, plain(1), shuffled(), ranked(mixed()), plain(1001)} {
		given, row := roomy(l)
		before := slices.Clone(row)
		Sort(given)
		for _, a := range asks() {
			Objects(given, a)
			Versions(given, a)
		}
		if !slices.Equal(row, before) {
			t.Errorf("%d entries: what was handed in is changed", len(l))
		}
	}
}

// R4: no answer shares memory with what was handed in, or with another answer, spare room included; nor is the list kept.
func TestNothingIsShared(t *testing.T) {
	list := func(page func([]api.Entry, Ask) (Answer, api.Errno), a Ask) func([]api.Entry) []api.Entry {
		return func(all []api.Entry) []api.Entry {
			got, _ := page(all, a)
			return got.List
		}
	}
	calls := []func([]api.Entry) []api.Entry{Sort}
	for _, a := range asks() {
		calls = append(calls, list(Objects, a), list(Versions, a))
	}
	for _, l := range [][]api.Entry{plain(1), plain(5), shuffled(), ranked(mixed()), plain(1001)} {
		for i, call := range calls {
			want := slices.Clone(call(slices.Clone(l)))
			given, row := roomy(l)
			before := slices.Clone(row)
			first, second := call(given), call(given)
			spoil(first)
			if !slices.Equal(row, before) || !slices.Equal(second, want) {
				t.Errorf("%d entries, call %d: an answer is shared", len(l), i)
			}
			spoil(row)
			if !slices.Equal(second, want) {
				t.Errorf("%d entries, call %d: what was handed in is shared", len(l), i)
			}
			if again := call(slices.Clone(l)); !slices.Equal(again, want) {
				t.Errorf("%d entries, call %d: what was handed in is kept", len(l), i)
			}
		}
	}
}
