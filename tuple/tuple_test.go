package tuple_test

import (
	"slices"
	"strings"
	"testing"

	"blotter/api"
	"blotter/tuple"
)

// lowestInt is the least number that there is.
const lowestInt = -api.MaxInt - 1

// oddParts are parts that may be in a row, but in no tuple.
func oddParts() []api.Part {
	return []api.Part{
		{}, {Int: 1}, {Text: "a"}, {Kind: 3}, {Kind: 3, Int: 1}, {Kind: 3, Text: "a"}, {Kind: -1}, {Kind: -2, Text: "a"}, {Kind: api.MaxInt}, {Kind: lowestInt}, {Kind: 257}, {Kind: 258}, {Kind: 1<<32 + 1},
		{Kind: api.PartInt, Text: "a"}, {Kind: api.PartInt, Int: 1, Text: "a"}, {Kind: api.PartInt, Text: "\x00"}, {Kind: api.PartInt, Int: -1, Text: strings.Repeat("a", 200)},
		{Kind: api.PartText, Int: 1}, {Kind: api.PartText, Int: -1, Text: "a"}, {Kind: api.PartText, Int: lowestInt}, {Kind: api.PartText, Int: api.MaxInt, Text: strings.Repeat("a", 200)},
	}
}

// sundry are parts of either kind.
func sundry() []api.Part {
	return row(lowestInt, -256, -1, 0, 1, 255, api.MaxInt, "", "\x00", "\x00\x00", "\x00\x01", "\x00\xff", "\x01", "\x02", "a", "a\x00", "ab", "b", "\xff", "\xff\x00", "\xff\xff")
}

func TestP111Examples(t *testing.T) {
	for _, x := range []struct {
		a, b []api.Part
		want int
	}{
		{row(1), row(1, "a"), -1},
		{row(2), row(1, "a"), 1},
		{row("a"), row(5), 1},
		{nil, nil, 0}, {nil, []api.Part{}, 0}, {nil, row(lowestInt), -1}, {nil, row(api.Part{Kind: lowestInt}), -1},
		{row(api.MaxInt), row(""), -1}, {row(lowestInt), row(api.MaxInt), -1}, {row(-1), row(0), -1},
		{row("B"), row("a"), -1}, {row("a"), row("aa"), -1}, {row("a\x00"), row("aa"), -1}, {row("z"), row("ä"), -1}, {row("\x7f"), row("\x80"), -1}, {row("", "b"), row("a"), -1},
		{row(1, 2, 3), row(1, 2, 3), 0}, {row(1, 2, 3), row(1, 2), 1}, {row(1, 2, 3), row(1, 3), -1}, {row("a", 1), row("a", "a"), -1},
	} {
		if n := tuple.Order(x.a, x.b); n != x.want {
			t.Error(show(x.a), show(x.b), n)
		}
		if n := tuple.Order(x.b, x.a); n != -x.want {
			t.Error(show(x.b), show(x.a), n)
		}
	}
}

// TestP111AnyRows: rows of any parts, also such as are in no tuple, and longer ones.
func TestP111AnyRows(t *testing.T) {
	all := rows(2, slices.Concat(oddParts(), row(0, 1, "", "a")))
	for _, a := range all {
		for _, b := range all {
			if n := tuple.Order(a, b); n != orderOf(a, b) {
				t.Fatal(show(a), show(b), n)
			}
		}
	}
	for n := range 30 {
		a := slices.Repeat(row(1, "a"), n)
		for i := range a {
			b := slices.Clone(a)
			b[i] = api.Part{Kind: 2, Text: "b"}
			if tuple.Order(a, b) != -1 || tuple.Order(b, a) != 1 || tuple.Order(a[:i], a) != -1 || tuple.Order(b, a[:i]) != 1 || tuple.Order(a[:i], b) != -1 {
				t.Error(n, i)
			}
		}
	}
}

// TestP111KindIntText: the kind counts ahead of the number, the number ahead of the text.
func TestP111KindIntText(t *testing.T) {
	var parts []api.Part
	for _, kind := range []int{lowestInt, -1, 0, 1, 2, 3, api.MaxInt} {
		for _, n := range []int{lowestInt, -1, 0, 1, api.MaxInt} {
			for _, s := range []string{"", "\x00", "a", "a\x00", "ab", "\xff"} {
				parts = append(parts, api.Part{Kind: kind, Int: n, Text: s})
			}
		}
	}
	for i, x := range parts {
		for j, y := range parts {
			want := 0
			if i < j {
				want = -1
			} else if i > j {
				want = 1
			}
			if n := tuple.Order(row(x), row(y)); n != want {
				t.Fatal(show(row(x, y)), n)
			}
			if n := tuple.Order(row(1, x, 7), row(1, y, 7)); n != want {
				t.Fatal("within", show(row(x, y)), n)
			}
		}
	}
}

func TestP112Examples(t *testing.T) {
	for _, x := range []struct {
		l   []api.Part
		key string
	}{
		{row(1, "a"), "\x01\x80\x00\x00\x00\x00\x00\x00\x01\x02a\x00\x00"},
		{row(-1), "\x01\x7f\xff\xff\xff\xff\xff\xff\xff"},
		{row("\x00"), "\x02\x00\xff\x00\x00"},
		{row(0), "\x01\x80\x00\x00\x00\x00\x00\x00\x00"},
		{row(lowestInt), "\x01\x00\x00\x00\x00\x00\x00\x00\x00"},
		{row(api.MaxInt), "\x01\xff\xff\xff\xff\xff\xff\xff\xff"},
		{row(0x0102030405060708), "\x01\x81\x02\x03\x04\x05\x06\x07\x08"},
		{row(""), "\x02\x00\x00"},
		{row("", ""), "\x02\x00\x00\x02\x00\x00"},
		{row("\x00\xff"), "\x02\x00\xff\xff\x00\x00"},
		{row("\xff\x00"), "\x02\xff\x00\xff\x00\x00"},
		{row("a\x00\x00"), "\x02a\x00\xff\x00\xff\x00\x00"},
		{row("\x01\x02"), "\x02\x01\x02\x00\x00"},
		{row("ä\x80"), "\x02\xc3\xa4\x80\x00\x00"},
	} {
		if key, e := tuple.Key(x.l); key != x.key || e != api.OK {
			t.Error(show(x.l), show(key), e)
		}
		if l, e := tuple.Read(x.key); !slices.Equal(l, x.l) || e != api.OK {
			t.Error(show(x.key), show(l), e)
		}
	}
}

// holdKey holds a row's key against the words, and Read of it against the row.
func holdKey(t *testing.T, l []api.Part) {
	t.Helper()
	want, e := keyOf(l)
	key, f := tuple.Key(l)
	if key != want || e != f {
		t.Fatal(show(l), show(key), f)
	}
	if back, g := tuple.Read(key); e == api.OK && (!slices.Equal(back, l) || g != api.OK) {
		t.Fatal(show(l), show(key), show(back), g)
	}
}

func TestP112KeyOfEach(t *testing.T) {
	for _, n := range ints() {
		holdKey(t, row(n))
		holdKey(t, row(n, "a", -n))
	}
	for _, s := range texts(2, "\x00\x01\x02a\x7f\x80\xfe\xff") {
		holdKey(t, row(s))
		holdKey(t, row(s, s, 5, s))
	}
	for i := range 256 {
		holdKey(t, row(string([]byte{byte(i)})))
		holdKey(t, row(i<<56|i, string([]byte{0, byte(i), 0, byte(i)})))
	}
	for _, l := range rows(3, sundry()) {
		holdKey(t, l)
	}
	for seed := range 3000 {
		var l []api.Part
		for i, b := range noise(1+seed%9, seed) {
			if b < 128 {
				l = append(l, row(int(b)<<(seed%60))...)
			} else {
				l = append(l, row(string(noise(int(b)%16, seed+i)))...)
			}
		}
		holdKey(t, l)
	}
}

func TestP112NoTuple(t *testing.T) {
	refuse := func(l []api.Part) {
		t.Helper()
		if key, e := tuple.Key(l); key != "" || e != api.ErrTuple {
			t.Error(show(l), show(key), e)
		}
	}
	refuse(nil)
	refuse([]api.Part{})
	for n := 9; n < 40; n++ {
		refuse(slices.Repeat(row(1), n))
		refuse(slices.Repeat(row(""), n))
	}
	refuse(slices.Repeat(row(strings.Repeat("a", 200)), 9))
	refuse(slices.Repeat(row(1), 1<<20))
	long := api.Part{Kind: api.PartText, Text: strings.Repeat("a", 200)}
	for _, p := range oddParts() {
		refuse(row(p))
		refuse(row(1, p))
		refuse(row(p, "a"))
		refuse(row(1, "a", 2, "b", 3, "c", 4, p))
		// Of two faults the one that is named first is told.
		refuse(row(long, p))
		refuse(row(p, long))
		refuse(slices.Repeat(row(p), 9))
	}
}

// TestP112KeyLong: a key of MaxKey bytes is fine, one of more isn't, wherever its bytes are from.
func TestP112KeyLong(t *testing.T) {
	for _, x := range []struct {
		ahead []api.Part
		room  int // The bytes of a text behind them.
	}{
		{nil, 97}, {row(1), 88}, {row(1, 2, 3, 4, 5, 6, 7), 34}, {row("", "", "", "", "", "", ""), 76}, {row("a", -1), 84}, {row("\x00"), 92},
	} {
		for n := range 140 {
			e := api.OK
			if n > x.room {
				e = api.ErrLong
			}
			try := func(s string) {
				l := append(slices.Clone(x.ahead), row(s)...)
				if key, f := tuple.Key(l); e != f || e == api.OK && len(key) != 100-x.room+n || e != api.OK && key != "" {
					t.Error(show(l), show(key), f)
				}
				holdKey(t, l)
			}
			try(strings.Repeat("a", n))
			try(strings.Repeat("\xff", n))
			if n%2 == 0 {
				try(strings.Repeat("\x00", n/2))
			} else {
				try("a" + strings.Repeat("\x00", n/2))
			}
		}
	}
	holdKey(t, slices.Repeat(row(api.MaxInt), 8))
	for _, n := range []int{98, 99, 100, 101, 256, 1 << 16, 1 << 24} {
		for _, s := range []string{strings.Repeat("a", n), strings.Repeat("\x00", n)} {
			if key, e := tuple.Key(row(s)); key != "" || e != api.ErrLong {
				t.Error(n, e)
			}
			if key, e := tuple.Key(row(s, s, s, s, s, s, s, s)); key != "" || e != api.ErrLong {
				t.Error(n, e)
			}
		}
	}
}

// holdRead holds a row that is read against the form of keys, and Key of it against what was read.
func holdRead(t *testing.T, key string) {
	t.Helper()
	want, e := readOf(key)
	l, f := tuple.Read(key)
	if !slices.Equal(l, want) || e != f || e != api.OK && l != nil {
		t.Fatal(show(key), show(l), f)
	}
	if back, g := tuple.Key(l); e == api.OK && (back != key || g != api.OK) {
		t.Fatal(show(key), show(l), show(back), g)
	}
}

func TestP112ReadRefused(t *testing.T) {
	for _, key := range []string{
		"\x02a\x00", // The document's own.
		"", "\x00", "\x01", "\x02", "\x03", "a", "\xff", "\x00\x00", "\x00\xff",
		"\x01\x80", "\x01\x80\x00\x00\x00\x00\x00\x00", "\x01\x80\x00\x00\x00\x00\x00\x00\x01\x00", "\x01\x80\x00\x00\x00\x00\x00\x00\x01\x01", "\x01\x80\x00\x00\x00\x00\x00\x00\x01\x02",
		"\x02\x00", "\x02a", "\x02\x00\xff", "\x02\x00\xff\x00", "\x02\x00\x01", "\x02\x00\x01\x00\x00", "\x02\x00\xfe\x00\x00", "\x02\x00\x02\x00\x00", "\x02a\x00b\x00\x00", "\x02a\x00a\x00\x00\x00", "\x02a\x00\xff", "\x02a\x00\x00\x00", "\x02a\x00\x00\xff", "\x02\x00\x00\x00\x00", "\x02\x00\x00a",
		"\x03\x80\x00\x00\x00\x00\x00\x00\x01", "\x00\x80\x00\x00\x00\x00\x00\x00\x01", "\x03a\x00\x00", "\x00a\x00\x00",
		strings.Repeat("\x02\x00\x00", 9), strings.Repeat("\x02\x00\x00", 33), strings.Repeat("\x01\x80\x00\x00\x00\x00\x00\x00\x01", 9), strings.Repeat("\x02\x00\x00", 8) + "\x02", strings.Repeat("\x02\x00\x00", 8) + "\x00",
		strings.Repeat("a", 100), "\x02" + strings.Repeat("a", 99), "\x02" + strings.Repeat("a", 98) + "\x00", strings.Repeat("\x00", 100),
	} {
		if l, e := tuple.Read(key); l != nil || e != api.ErrTuple {
			t.Error(show(key), show(l), e)
		}
	}
}

// TestP112ReadLong: what is longer than MaxKey is told so, whether or not it would be a key otherwise.
func TestP112ReadLong(t *testing.T) {
	for _, key := range []string{
		"\x02" + strings.Repeat("a", 98) + "\x00\x00", "\x02" + strings.Repeat("\x00\xff", 49) + "\x00\x00",
		strings.Repeat("a", 101), strings.Repeat("\x00", 101), strings.Repeat("\x02\x00\x00", 34), "\x02" + strings.Repeat("a", 97) + "\x00\x00\x00",
		strings.Repeat("\x01\x80\x00\x00\x00\x00\x00\x00\x01", 12), strings.Repeat("\x02", 1<<24),
	} {
		if l, e := tuple.Read(key); l != nil || e != api.ErrLong {
			t.Error(show(key), show(l), e)
		}
	}
	holdRead(t, "\x02"+strings.Repeat("a", 97)+"\x00\x00")
	holdRead(t, strings.Repeat("\x01\x80\x00\x00\x00\x00\x00\x00\x01", 8))
	holdRead(t, strings.Repeat("\x02\x00\x00", 8))
}

func TestP112ReadOfEach(t *testing.T) {
	for _, s := range texts(6, "\x00\x01\x02a\xfe\xff") {
		holdRead(t, s)
		holdRead(t, "\x02"+s)
	}
	for i := range 256 {
		b := string([]byte{byte(i)})
		for _, s := range texts(4, "\x00\xff"+b) {
			holdRead(t, s)
			holdRead(t, "\x02"+s)
			holdRead(t, b+s+"\x00\x00")
			holdRead(t, "\x01abcdefgh"+s)
		}
	}
	for n := range 130 {
		holdRead(t, strings.Repeat("\x01", n))
		holdRead(t, strings.Repeat("\x02", n)+"\x00\x00")
		holdRead(t, "\x02"+strings.Repeat("\x00", n))
		holdRead(t, strings.Repeat("\x02\x00\x00", n))
		holdRead(t, strings.Repeat("\x02\x00\x00\x01\x00\x00\x00\x00\x00\x00\x00\x00", n))
	}
}

// TestP112ReadWrong: keys that have lost bytes, got some, or have others.
func TestP112ReadWrong(t *testing.T) {
	for _, l := range [][]api.Part{row(1, "a"), row("\x00"), row("", "a\x00", -1), row("\x00\xff", ""), row(api.MaxInt, lowestInt), row("", "", "", "", "", "", "", ""), row(1, 2, 3, 4, 5, 6, 7, strings.Repeat("a", 34)), row(1, "a", 2, "b", 3, "c", 4, "d")} {
		key, _ := keyOf(l)
		for i := range len(key) {
			holdRead(t, key[:i])
			holdRead(t, key[i:])
			holdRead(t, key[:i]+key[i+1:])
			for b := range 256 {
				other := string([]byte{byte(b)})
				holdRead(t, key[:i]+other+key[i+1:])
				holdRead(t, key[:i]+other+key[i:])
				holdRead(t, key+other)
			}
		}
	}
}

func TestP113Examples(t *testing.T) {
	for begin, want := range map[string]string{
		"a": "b", "a\xff": "b", "\xff": "", "": "", "\xff\xff": "", strings.Repeat("\xff", 1000): "",
		"\x00": "\x01", "\x00\xff": "\x01", "a\x00": "a\x01", "\xfe": "\xff", "\xfe\xff\xff": "\xff", "\xff\x00": "\xff\x01", "\xff\xfe\xff": "\xff\xff", "a\xff\xffb\xff": "a\xff\xffc", "\x7f": "\x80", "ab": "ac", "é": "ê", "\x02a\x00\x00": "\x02a\x00\x01",
	} {
		if s := tuple.After(begin); s != want {
			t.Errorf("%q %q", begin, s)
		}
	}
	for i := range 255 {
		if s := tuple.After(string([]byte{7, byte(i)})); s != string([]byte{7, byte(i) + 1}) {
			t.Errorf("%d %q", i, s)
		}
	}
	long := strings.Repeat("a", 1<<20)
	if tuple.After(long) != long[1:]+"b" || tuple.After(long+strings.Repeat("\xff", 1<<20)) != long[1:]+"b" {
		t.Error("long")
	}
}

// TestP113Least: of the texts that aren't less than a beginning, those that are less than After's begin with it, and no others do.
func TestP113Least(t *testing.T) {
	all := texts(5, "\x00\x01\xfe\xff")
	for _, begin := range texts(4, "\x00\x01\xfe\xff") {
		after := tuple.After(begin)
		if after != "" && after <= begin {
			t.Fatal(show(begin), show(after))
		}
		for _, s := range all {
			if (s >= begin && (after == "" || s < after)) != strings.HasPrefix(s, begin) {
				t.Fatal(show(begin), show(after), show(s))
			}
		}
	}
}

// sorted are rows as Order says they stand.
func sorted(all [][]api.Part) [][]api.Part {
	all = slices.Clone(all)
	slices.SortFunc(all, tuple.Order)
	return all
}

// TestP115Order: keys stand as their tuples do.
func TestP115Order(t *testing.T) {
	before := ""
	for i, l := range sorted(rows(3, sundry())[1:]) {
		key, e := tuple.Key(l)
		if e != api.OK || i > 0 && key <= before {
			t.Fatal(show(l), show(before), show(key), e)
		}
		before = key
	}
	before = ""
	for _, n := range ints() {
		key, e := tuple.Key(row(n))
		if e != api.OK || key <= before {
			t.Fatal(n, show(before), show(key), e)
		}
		before = key
	}
	before = ""
	of := "\x00\x01\x02a\xfe\xff"
	all := texts(4, of)
	slices.Sort(all)
	for _, s := range all {
		key, e := tuple.Key(row(s))
		if e != api.OK || key <= before {
			t.Fatal(show(s), show(before), show(key), e)
		}
		before = key
	}
}

// TestP115Beginnings: a tuple's key begins those of the tuples that go on from it, and no others; so they are what stands ahead of After's.
func TestP115Beginnings(t *testing.T) {
	all := rows(2, sundry())[1:]
	keys := make([]string, len(all))
	for i, l := range all {
		keys[i], _ = tuple.Key(l)
	}
	for i, a := range all {
		after := tuple.After(keys[i])
		for j, b := range all {
			on := len(b) >= len(a) && slices.Equal(b[:len(a)], a)
			if strings.HasPrefix(keys[j], keys[i]) != on || (keys[j] >= keys[i] && keys[j] < after) != on {
				t.Fatal(show(a), show(b))
			}
			if n := tuple.Order(a, b); n != strings.Compare(keys[i], keys[j]) {
				t.Fatal(show(a), show(b), n)
			}
		}
	}
}

// TestP115ThereAndBack: also of the longest tuples.
func TestP115ThereAndBack(t *testing.T) {
	for seed := range 5000 {
		l := make([]api.Part, 1+seed%8)
		for i := range l {
			n := noise(9, seed*8+i)
			l[i] = api.Part{Kind: api.PartText, Text: strings.Map(func(r rune) rune { return r & 1 * 255 }, string(n[:int(n[8])%6]))}
			if n[0]%2 == 0 {
				l[i] = api.Part{Kind: api.PartInt, Int: int(n[1])<<56 | int(n[2])<<28 | int(n[3])}
			}
		}
		holdKey(t, l)
		key, _ := tuple.Key(l)
		holdRead(t, key)
	}
}
