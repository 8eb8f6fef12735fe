package runes_test

import (
	"math"
	"slices"
	"strings"
	"testing"
	"unsafe"

	"blotter/api"
	"blotter/runes"
)

// The numbers that no text has as a place, far from all and near to the edge.
var wild = []int{math.MinInt, math.MinInt + 1, -api.MaxText, -1, api.MaxText + 1, math.MaxInt - 1, math.MaxInt}

// Pieces that no text has anywhere.
var broken = []string{
	"\x80", "\xbf", "\xc2", "\xc0\x80", "\xc1\xbf", "\xc2a", "\xc2\xc2\x80",
	"\xe0\x80\x80", "\xe0\x9f\xbf", "\xe1\x80", "\xed\xa0\x80", "\xed\xbf\xbf", "\xef\xbf",
	"\xf0\x80\x80\x80", "\xf0\x8f\xbf\xbf", "\xf0\x90\x80", "\xf4\x90\x80\x80", "\xf5\x80\x80\x80", "\xf8\x88\x80\x80\x80", "\xfe", "\xff",
}

// decode is a text's runes, as the document's words say what one is, and whether it is one.
func decode(s string) ([]int, bool) {
	var l []int
	for len(s) > 0 {
		first, size, least := int(s[0]), 1, 0
		r := first
		switch {
		case first >= 0xf0 && first < 0xf8:
			r, size, least = first&7, 4, 0x10000
		case first >= 0xe0 && first < 0xf0:
			r, size, least = first&15, 3, 0x800
		case first >= 0xc0 && first < 0xe0:
			r, size, least = first&31, 2, 0x80
		case first >= 0x80:
			return nil, false
		}
		if len(s) < size {
			return nil, false
		}
		for _, b := range []byte(s[1:size]) {
			if b>>6 != 2 {
				return nil, false
			}
			r = r<<6 | int(b&63)
		}
		if r < least || r >= 0xd800 && r <= 0xdfff || r > 0x10ffff {
			return nil, false
		}
		l, s = append(l, r), s[size:]
	}
	return l, len(l) <= api.MaxText
}

// words are all texts of up to so many pieces.
func words(most int, pieces ...string) []string {
	l := []string{""}
	for begin := 0; most > 0; most-- {
		end := len(l)
		for _, w := range l[begin:end] {
			for _, p := range pieces {
				l = append(l, w+p)
			}
		}
		begin = end
	}
	return l
}

// Two runes that begin with the same byte (the first two), two that end with the same one (the first and the third), and one of each other size.
var samples = words(4, "\u00e9", "\u00e8", "\u0129", "a", "\n", "\ufffd", "\U0001f600")

func TestP11Counts(t *testing.T) {
	full, wide := strings.Repeat("a", api.MaxText), strings.Repeat("\U0010ffff", api.MaxText)
	for i, x := range []struct {
		s    string
		n    int
		want api.Errno
	}{
		{"", 0, api.OK}, {"h\u00e9llo", 5, api.OK}, {"\x00", 1, api.OK}, {"\x7f\u0080\u07ff\u0800\ud7ff\ue000\uffff\U00010000\U0010ffff", 9, api.OK},
		{"\ufffd", 1, api.OK}, {"a\ufffdb\ufffd", 4, api.OK}, {"a\u0301", 2, api.OK}, {"\r\n", 2, api.OK}, {"\ufeffa", 2, api.OK},
		{full, api.MaxText, api.OK}, {wide, api.MaxText, api.OK}, {full[1:] + "\u00e9", api.MaxText, api.OK},
		{full + "a", 0, api.ErrText}, {wide + "a", 0, api.ErrText}, {full + full, 0, api.ErrText},
		{full + "\xff", 0, api.ErrText}, {full[1:] + "\xff", 0, api.ErrText}, {"\xff" + full[1:], 0, api.ErrText}, {"\ufffd\xff", 0, api.ErrText}, {"\xff\ufffd", 0, api.ErrText},
	} {
		if n, e := runes.Count(x.s); n != x.n || e != x.want {
			t.Error(i, n, e)
		}
	}
	for _, b := range broken {
		for _, s := range []string{b, "a" + b, b + "a", "\u00e9" + b + "\ufffd"} {
			if n, e := runes.Count(s); n != 0 || e != api.ErrText {
				t.Errorf("%q: %d %v", s, n, e)
			}
		}
	}
}

func TestP11CountsAllEdgesOfBytes(t *testing.T) {
	var pieces []string
	for _, b := range []byte("\x00A\x7f\x80\x8f\x90\x9f\xa0\xbf\xc0\xc1\xc2\xdf\xe0\xe1\xec\xed\xee\xef\xf0\xf1\xf3\xf4\xf5\xf7\xf8\xff") {
		pieces = append(pieces, string([]byte{b}))
	}
	for _, s := range words(4, pieces...) {
		l, ok := decode(s)
		n, e := runes.Count(s)
		if ok != (e == api.OK) || !ok && e != api.ErrText || n != len(l) {
			t.Fatalf("%q: %d %v", s, n, e)
		}
	}
}

// TestNoText: each call says ErrText ahead of all else, of each text that is handed in, and nothing besides.
func TestNoText(t *testing.T) {
	long := strings.Repeat("a", api.MaxText+1)
	for _, b := range append([]string{long, long + "\xff"}, broken...) {
		if s, e := runes.Cut(b, 5, -5); s != "" || e != api.ErrText {
			t.Errorf("Cut %.9q: %q %v", b, s, e)
		}
		if n, e := runes.Place(b, -1); n != 0 || e != api.ErrText {
			t.Errorf("Place %.9q: %d %v", b, n, e)
		}
		if l, e := runes.Lines(b); l != nil || e != api.ErrText {
			t.Errorf("Lines %.9q: %q %v", b, l, e)
		}
		for i, x := range [][2]string{{b, "a"}, {"a", b}, {b, b}} {
			if s, e := runes.Splice(x[0], -1, -1, x[1]); s != "" || e != api.ErrText {
				t.Errorf("Splice %d of %.9q: %q %v", i, b, s, e)
			}
			if n, e := runes.Ahead(x[0], x[1]); n != 0 || e != api.ErrText {
				t.Errorf("Ahead %d of %.9q: %d %v", i, b, n, e)
			}
			if n, e := runes.Behind(x[0], x[1]); n != 0 || e != api.ErrText {
				t.Errorf("Behind %d of %.9q: %d %v", i, b, n, e)
			}
		}
	}
}

func TestP12Cuts(t *testing.T) {
	if s, e := runes.Cut("h\u00e9llo", 1, 3); s != "\u00e9l" || e != api.OK {
		t.Error(s, e)
	}
	if s, e := runes.Cut("ab", 1, 3); s != "" || e != api.ErrArg {
		t.Error(s, e)
	}
	for _, s := range samples {
		l := []rune(s)
		for from := -2; from <= len(l)+2; from++ {
			for to := -2; to <= len(l)+2; to++ {
				want, f := "", api.ErrArg
				if 0 <= from && from <= to && to <= len(l) {
					want, f = string(l[from:to]), api.OK
				}
				if p, e := runes.Cut(s, from, to); p != want || e != f {
					t.Fatalf("%q %d %d: %q %v", s, from, to, p, e)
				}
			}
		}
	}
	for _, n := range wild {
		for _, m := range append([]int{0, 1, 2}, wild...) {
			for _, x := range [][2]int{{n, m}, {m, n}} {
				if s, e := runes.Cut("ab", x[0], x[1]); s != "" || e != api.ErrArg {
					t.Error(x, s, e)
				}
			}
		}
	}
}

func TestP12Places(t *testing.T) {
	if n, e := runes.Place("h\u00e9llo", 2); n != 3 || e != api.OK {
		t.Error(n, e)
	}
	for _, s := range samples {
		l := []rune(s)
		for at := -2; at <= len(l)+2; at++ {
			want, f := 0, api.ErrArg
			if 0 <= at && at <= len(l) {
				want, f = len(string(l[:at])), api.OK
			}
			if n, e := runes.Place(s, at); n != want || e != f {
				t.Fatalf("%q %d: %d %v", s, at, n, e)
			}
		}
	}
	for _, n := range wild {
		if p, e := runes.Place("ab", n); p != 0 || e != api.ErrArg {
			t.Error(n, p, e)
		}
	}
	wide := strings.Repeat("\U0010ffff", api.MaxText)
	if n, e := runes.Place(wide, api.MaxText); n != len(wide) || e != api.OK {
		t.Error(n, e)
	}
}

func TestP13Splices(t *testing.T) {
	for i, x := range []struct {
		s        string
		at, gone int
		put, out string
		want     api.Errno
	}{
		{"abc", 1, 1, "xy", "axyc", api.OK}, {"abc", 1, 3, "", "", api.ErrArg}, {"", 0, 0, "", "", api.OK}, {"", 0, 0, "a", "a", api.OK},
		{"abc", 3, 0, "d", "abcd", api.OK}, {"abc", 0, 3, "", "", api.OK}, {"abc", 4, 0, "", "", api.ErrArg}, {"abc", 3, 1, "", "", api.ErrArg},
		{"abc", 0, -1, "", "", api.ErrArg}, {"abc", -1, 1, "", "", api.ErrArg}, {"h\u00e9llo", 1, 1, "\u00e8\u00ea", "h\u00e8\u00eallo", api.OK},
	} {
		if s, e := runes.Splice(x.s, x.at, x.gone, x.put); s != x.out || e != x.want {
			t.Error(i, s, e)
		}
	}
	for _, s := range samples[:400] {
		l := []rune(s)
		for at := -1; at <= len(l)+1; at++ {
			for gone := -1; gone <= len(l)+1; gone++ {
				for _, put := range []string{"", "x", "\u00e9\n\U0001f600"} {
					want, f := "", api.ErrArg
					if at >= 0 && gone >= 0 && at+gone <= len(l) {
						want, f = string(l[:at])+put+string(l[at+gone:]), api.OK
					}
					if p, e := runes.Splice(s, at, gone, put); p != want || e != f {
						t.Fatalf("%q %d %d %q: %q %v", s, at, gone, put, p, e)
					}
				}
			}
		}
	}
	for _, n := range wild {
		for _, m := range append([]int{0, 1, 2}, wild...) {
			for _, x := range [][2]int{{n, m}, {m, n}} {
				if s, e := runes.Splice("ab", x[0], x[1], "c"); s != "" || e != api.ErrArg {
					t.Error(x, s, e)
				}
			}
		}
	}
}

func TestP13SplicesUpToTheLimit(t *testing.T) {
	full := strings.Repeat("\u00e9", api.MaxText)
	for i, x := range []struct {
		at, gone int
		put, out string
		want     api.Errno
	}{
		{0, 0, "", full, api.OK}, {0, 0, "x", "", api.ErrBig}, {api.MaxText, 0, "x", "", api.ErrBig}, {7, 1, "xy", "", api.ErrBig},
		{0, 1, "x", "x" + full[2:], api.OK}, {0, 2, "xy", "xy" + full[4:], api.OK}, {0, api.MaxText, full, full, api.OK}, {1, api.MaxText - 1, full, "", api.ErrBig},
		{0, api.MaxText + 1, full, "", api.ErrArg}, {api.MaxText + 1, 0, full, "", api.ErrArg}, {1, api.MaxText, full, "", api.ErrArg}, {0, -1, full, "", api.ErrArg},
	} {
		if s, e := runes.Splice(full, x.at, x.gone, x.put); s != x.out || e != x.want {
			t.Error(i, len(s), e)
		}
	}
	if s, e := runes.Splice(full[2:], 3, 0, "\u00e9"); s != full || e != api.OK {
		t.Error(len(s), e)
	}
}

// alike tells how many runes two texts begin with, and end with behind these, by trying all numbers.
func alike(a, b string) (int, int) {
	x, y := []rune(a), []rune(b)
	least := min(len(x), len(y))
	n, m := 0, 0
	for i := 0; i <= least; i++ {
		if slices.Equal(x[:i], y[:i]) {
			n = i
		}
	}
	for i := 0; i <= least-n; i++ {
		if slices.Equal(x[len(x)-i:], y[len(y)-i:]) {
			m = i
		}
	}
	return n, m
}

func TestP14Alike(t *testing.T) {
	for i, x := range []struct {
		a, b string
		n, m int
	}{
		{"abcab", "abab", 2, 2}, {"aa", "a", 1, 0}, {"a", "aa", 1, 0}, {"", "", 0, 0}, {"", "a", 0, 0}, {"aaa", "aaa", 3, 0}, {"aba", "abba", 2, 1},
		{"\u00e9x", "\u00e8x", 0, 1}, {"x\u00e9", "x\u0129", 1, 0}, {"\u00e9", "\u0129", 0, 0}, {"a\ufffd", "b\ufffd", 0, 1}, {"\U0001f600", "\U0001f601", 0, 0},
	} {
		n, e := runes.Ahead(x.a, x.b)
		m, f := runes.Behind(x.a, x.b)
		if n != x.n || m != x.m || e != api.OK || f != api.OK {
			t.Error(i, n, m, e, f)
		}
	}
	for _, a := range samples[:400] {
		for _, b := range samples[:400] {
			n, e := runes.Ahead(a, b)
			m, f := runes.Behind(a, b)
			if p, q := alike(a, b); n != p || m != q || e != api.OK || f != api.OK {
				t.Fatalf("%q %q: %d %d %v %v", a, b, n, m, e, f)
			}
		}
	}
	full := strings.Repeat("\u00e9", api.MaxText)
	if n, e := runes.Ahead(full, full); n != api.MaxText || e != api.OK {
		t.Error(n, e)
	}
	if n, e := runes.Behind("x"+full[2:], "y"+full[2:]); n != api.MaxText-1 || e != api.OK {
		t.Error(n, e)
	}
}

func TestP15Lines(t *testing.T) {
	for i, x := range []struct {
		s    string
		want []string
	}{
		{"", []string{""}}, {"a", []string{"a"}}, {"a\n\nb", []string{"a", "", "b"}}, {"\n", []string{"", ""}}, {"a\n", []string{"a", ""}}, {"\na", []string{"", "a"}},
		{"a\r\nb\rc", []string{"a\r", "b\rc"}}, {"\u00e9\n\u2028\u0085\v\f\n\u010a", []string{"\u00e9", "\u2028\u0085\v\f", "\u010a"}},
	} {
		if l, e := runes.Lines(x.s); !slices.Equal(l, x.want) || e != api.OK {
			t.Errorf("%d: %q %v", i, l, e)
		}
	}
	l, e := runes.Lines(strings.Repeat("\n", api.MaxText))
	if len(l) != api.MaxText+1 || strings.Join(l, "") != "" || e != api.OK {
		t.Error(len(l), e)
	}
}

// shares tells whether the two have a byte of memory in common.
func shares(a, b string) bool {
	if a == "" || b == "" {
		return false
	}
	x, y := uintptr(unsafe.Pointer(unsafe.StringData(a))), uintptr(unsafe.Pointer(unsafe.StringData(b)))
	return x < y+uintptr(len(b)) && y < x+uintptr(len(a))
}

func TestP16NewMemory(t *testing.T) {
	s, put := strings.Repeat("one\u00e9two ", 40), strings.Repeat("put", 20)
	n, _ := runes.Count(s)
	whole, _ := runes.Cut(s, 0, n)
	part, _ := runes.Cut(s, 3, 50)
	same, _ := runes.Splice(s, 5, 0, "")
	some, _ := runes.Splice(s, 5, n-5, "")
	other, _ := runes.Splice(s, 0, n, put)
	first, _ := runes.Splice("", 0, 0, put)
	for i, out := range []string{whole, part, same, some, other, first} {
		if out == "" || shares(out, s) || shares(out, put) {
			t.Errorf("%d: %d bytes that share memory", i, len(out))
		}
	}
	text := "first line\n" + s + "\nlast line"
	a, _ := runes.Lines(text)
	b, _ := runes.Lines(text)
	only, _ := runes.Lines(s)
	for i, line := range append(slices.Concat(a, b), only...) {
		if shares(line, text) || shares(line, s) {
			t.Errorf("the line %d shares memory", i)
		}
	}
	a[0] = "other"
	if b[0] != "first line" {
		t.Error("two answers share a list")
	}
}

func TestP17PartsMakeTheWhole(t *testing.T) {
	for _, s := range samples {
		n, _ := runes.Count(s)
		for at := 0; at <= n; at++ {
			begin, e := runes.Cut(s, 0, at)
			end, f := runes.Cut(s, at, n)
			p, g := runes.Place(s, at)
			if begin+end != s || p != len(begin) || e != api.OK || f != api.OK || g != api.OK {
				t.Fatalf("%q at %d: %q %q", s, at, begin, end)
			}
		}
		if l, e := runes.Lines(s); strings.Join(l, "\n") != s || len(l) != strings.Count(s, "\n")+1 || e != api.OK {
			t.Fatalf("%q: %q %v", s, l, e)
		}
	}
}

func TestP17SpliceMakesOneOfTheOther(t *testing.T) {
	for _, a := range samples[:400] {
		for _, b := range samples[:400] {
			n, _ := runes.Count(a)
			m, _ := runes.Count(b)
			p, _ := runes.Ahead(a, b)
			q, _ := runes.Behind(a, b)
			put, e := runes.Cut(b, p, m-q)
			s, f := runes.Splice(a, p, n-p-q, put)
			if s != b || e != api.OK || f != api.OK {
				t.Fatalf("%q %q: %q %v %v", a, b, s, e, f)
			}
		}
	}
}
