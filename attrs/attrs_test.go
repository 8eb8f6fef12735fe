package attrs_test

import (
	"slices"
	"strings"
	"testing"
	"unsafe"

	"blotter/api"
	"blotter/attrs"
)

// row reads attributes as the document's examples write them.
func row(s string) []api.Attr {
	var l []api.Attr
	for _, f := range strings.Fields(s) {
		k, v, _ := strings.Cut(f, "=")
		l = append(l, api.Attr{Key: k, Value: v})
	}
	return l
}

// show writes them likewise.
func show(l []api.Attr) string {
	var out []string
	for _, x := range l {
		out = append(out, x.Key+"="+x.Value)
	}
	return strings.Join(out, " ")
}

// rows are all rows of the keys a, b and c with these values, and without.
func rows(values ...string) [][]api.Attr {
	all := [][]api.Attr{nil}
	for _, k := range []string{"a", "b", "c"} {
		for _, l := range slices.Clone(all) {
			for _, v := range values {
				all = append(all, append(slices.Clone(l), api.Attr{Key: k, Value: v}))
			}
		}
	}
	return all
}

var (
	lists   = rows("1", "2")
	changes = rows("", "1", "2")
)

// many are so many attributes, of keys that begin alike.
func many(begin string, n int) []api.Attr {
	var l []api.Attr
	for i := range n {
		l = append(l, api.Attr{Key: begin + string(rune('a'+i)), Value: "1"})
	}
	return l
}

// table is a row by its keys; keys must not come twice.
func table(l []api.Attr) map[string]string {
	m := map[string]string{}
	for _, x := range l {
		m[x.Key] = x.Value
	}
	return m
}

// ordered is the row of a table, by its keys.
func ordered(m map[string]string) []api.Attr {
	var l []api.Attr
	for k, v := range m {
		l = append(l, api.Attr{Key: k, Value: v})
	}
	slices.SortFunc(l, func(x, y api.Attr) int { return strings.Compare(x.Key, y.Key) })
	return l
}

// applied is what a change makes of attributes, one key behind the other.
func applied(l, c []api.Attr) []api.Attr {
	m := table(l)
	for _, x := range c {
		if x.Value == "" {
			delete(m, x.Key)
		} else {
			m[x.Key] = x.Value
		}
	}
	return ordered(m)
}

// wrong are rows that are neither attributes nor a change.
func wrong() [][]api.Attr {
	out := [][]api.Attr{
		row("i=1 b=1"), row("b=1 b=1"), row("b=1 b=2"), row("a=1 c=1 b=1"), row("b=1 a=1 c=1"), row("a=1 b=1 b=1"), row("a=1 B=1"), row("_=1 Z=1"), row("ab=1 a=1"), row("a=1 -=1"),
		{{Key: "", Value: "1"}}, {{}}, {{}, {Key: "a", Value: "1"}}, {{Key: "a", Value: "1"}, {}}, many("", api.MaxAttrs+1), many("", 20),
		{{Key: strings.Repeat("k", api.MaxAttrKey+1), Value: "1"}}, {{Key: "k", Value: strings.Repeat("v", api.MaxAttrText+1)}},
		{{Key: "\u00e9", Value: "1"}}, {{Key: "k", Value: "\u00e9"}}, {{Key: "\U0001f600", Value: "1"}}, {{Key: "k", Value: "a\nb"}},
	}
	for b := range 256 {
		if !strings.Contains(keyBytes, string([]byte{byte(b)})) {
			for _, k := range []string{"\x00", "\x00a", "a\x00", "a\x00b"} {
				out = append(out, []api.Attr{{Key: strings.Replace(k, "\x00", string([]byte{byte(b)}), 1), Value: "1"}})
			}
		}
		if b < 32 || b > 126 {
			for _, v := range []string{"~", "~a", "a~", "a~b"} {
				out = append(out, []api.Attr{{Key: "a", Value: "1"}, {Key: "k", Value: strings.Replace(v, "~", string([]byte{byte(b)}), 1)}})
			}
		}
	}
	return out
}

const keyBytes = "ABCDEFGHIJKLMNOPQRSTUVWXYZabcdefghijklmnopqrstuvwxyz0123456789-_"

func TestP21Right(t *testing.T) {
	for i, x := range []struct {
		l            []api.Attr
		right, other api.Errno
	}{
		{nil, api.OK, api.OK}, {[]api.Attr{}, api.OK, api.OK}, {row("b=1"), api.OK, api.OK}, {row("b=1 i=1"), api.OK, api.OK}, {row("i=1 b=1"), api.ErrAttr, api.ErrAttr},
		{row("b="), api.ErrAttr, api.OK}, {row("b=1 i="), api.ErrAttr, api.OK}, {row("b= i=1"), api.ErrAttr, api.OK}, {row("b= i= u="), api.ErrAttr, api.OK}, {row("b= b="), api.ErrAttr, api.ErrAttr},
		{[]api.Attr{{Key: "a b", Value: "1"}}, api.ErrAttr, api.ErrAttr}, {[]api.Attr{{Key: "", Value: ""}}, api.ErrAttr, api.ErrAttr},
		{[]api.Attr{{Key: "a", Value: " "}}, api.OK, api.OK}, {[]api.Attr{{Key: "a", Value: " ~"}}, api.OK, api.OK}, {[]api.Attr{{Key: "a", Value: "a b = c"}}, api.OK, api.OK},
		{row("-=1 0=1 9=1 A=1 Z=1 _=1 a=1 z=1"), api.OK, api.OK}, {row("a=1 a-=1 a0=1 aa=1 b=1"), api.OK, api.OK},
		{many("", api.MaxAttrs), api.OK, api.OK}, {many("", api.MaxAttrs+1), api.ErrAttr, api.ErrAttr},
		{[]api.Attr{{Key: strings.Repeat("k", api.MaxAttrKey), Value: strings.Repeat("v", api.MaxAttrText)}}, api.OK, api.OK},
		{[]api.Attr{{Key: strings.Repeat("k", api.MaxAttrKey+1), Value: ""}}, api.ErrAttr, api.ErrAttr},
	} {
		if e := attrs.Right(x.l); e != x.right {
			t.Error("Right", i, e)
		}
		if e := attrs.Change(x.l); e != x.other {
			t.Error("Change", i, e)
		}
	}
	for _, l := range wrong() {
		if e := attrs.Right(l); e != api.ErrAttr {
			t.Errorf("Right %q: %v", l, e)
		}
		if e := attrs.Change(l); e != api.ErrAttr {
			t.Errorf("Change %q: %v", l, e)
		}
	}
}

func TestP21RightOfEachByte(t *testing.T) {
	for b := range 256 {
		s := string([]byte{byte(b)})
		key, value := api.ErrAttr, api.ErrAttr
		if strings.Contains(keyBytes, s) {
			key = api.OK
		}
		if b >= 32 && b <= 126 {
			value = api.OK
		}
		for _, call := range []func(l []api.Attr) api.Errno{attrs.Right, attrs.Change} {
			if e := call([]api.Attr{{Key: s, Value: "1"}}); e != key {
				t.Error("key", b, e)
			}
			if e := call([]api.Attr{{Key: "k" + s, Value: "1"}}); e != key {
				t.Error("key, behind", b, e)
			}
			if e := call([]api.Attr{{Key: "k", Value: s}}); e != value {
				t.Error("value", b, e)
			}
			if e := call([]api.Attr{{Key: "k", Value: "v" + s}}); e != value {
				t.Error("value, behind", b, e)
			}
		}
	}
}

// TestWrong: each call that reckons says ErrAttr of each list that may not be, and nothing besides.
func TestWrong(t *testing.T) {
	good := many("g", api.MaxAttrs)
	refused := func(name string, l []api.Attr, e api.Errno) {
		if l != nil || e != api.ErrAttr {
			t.Errorf("%s: %q %v", name, l, e)
		}
	}
	for _, w := range wrong() {
		for i, x := range [][2][]api.Attr{{w, good}, {good, w}, {w, w}, {w, nil}, {nil, w}} {
			name := string(rune('0' + i))
			l, e := attrs.Apply(x[0], x[1])
			refused("Apply "+name, l, e)
			l, e = attrs.Compose(x[0], x[1])
			refused("Compose "+name, l, e)
			l, e = attrs.Follow(x[0], x[1], false)
			refused("Follow "+name, l, e)
			l, e = attrs.Follow(x[0], x[1], true)
			refused("Follow, first "+name, l, e)
			l, e = attrs.Invert(x[0], x[1])
			refused("Invert "+name, l, e)
		}
	}
	// Attributes have no empty Value, though a change may have one.
	l, e := attrs.Apply(row("b="), nil)
	refused("Apply", l, e)
	l, e = attrs.Invert(row("b="), row("b=1"))
	refused("Invert", l, e)
}

func TestP22Apply(t *testing.T) {
	for i, x := range []struct{ l, c, want string }{
		{"b=1 i=1", "b= u=1", "i=1 u=1"}, {"", "", ""}, {"", "b=", ""}, {"", "b=1", "b=1"}, {"b=1", "", "b=1"}, {"b=1", "b=", ""}, {"b=1", "b=2", "b=2"}, {"b=1", "b=1", "b=1"},
		{"b=1", "a=1 c=1", "a=1 b=1 c=1"}, {"a=1 c=1", "b=1", "a=1 b=1 c=1"}, {"a=1 b=1 c=1", "b= d=", "a=1 c=1"}, {"a=1", "B=1", "B=1 a=1"},
	} {
		if l, e := attrs.Apply(row(x.l), row(x.c)); show(l) != x.want || e != api.OK {
			t.Error(i, show(l), e)
		}
	}
	for _, l := range lists {
		for _, c := range changes {
			if got, e := attrs.Apply(l, c); !slices.Equal(got, applied(l, c)) || e != api.OK {
				t.Fatalf("%s, %s: %s %v", show(l), show(c), show(got), e)
			}
		}
	}
}

func TestP22ApplyUpToTheLimit(t *testing.T) {
	full := many("k", api.MaxAttrs)
	gone := []api.Attr{{Key: "ka"}}
	for i, x := range []struct {
		l, c []api.Attr
		n    int
		want api.Errno
	}{
		{full, nil, 8, api.OK}, {full, full, 8, api.OK}, {nil, full, 8, api.OK}, {full, row("z=1"), 0, api.ErrBig}, {full, row("a=1"), 0, api.ErrBig}, {full, row("kcc=1"), 0, api.ErrBig},
		{full[1:], row("z=1"), 8, api.OK}, {full, row("z="), 8, api.OK}, {full, append(slices.Clone(gone), row("z=1")...), 8, api.OK}, {full, append(slices.Clone(gone), row("y=1 z=1")...), 0, api.ErrBig},
		{full, many("z", api.MaxAttrs), 0, api.ErrBig}, {full[:4], many("z", 4), 8, api.OK}, {full[:4], many("z", 5), 0, api.ErrBig}, {full, row("ka= kb= kc= kd= ke= kf= kg= kh="), 0, api.OK},
	} {
		if l, e := attrs.Apply(x.l, x.c); len(l) != x.n || e != x.want || e != api.OK && l != nil {
			t.Error(i, show(l), e)
		}
	}
}

func TestP23Compose(t *testing.T) {
	for i, x := range []struct{ a, b, want string }{
		{"b=1 i=1", "b=", "b= i=1"}, {"b=", "b=1", "b=1"}, {"", "", ""}, {"", "b=", "b="}, {"b=", "", "b="}, {"b=", "b=", "b="}, {"b=1", "b=2", "b=2"},
		{"a= c=1", "b=1 d=", "a= b=1 c=1 d="}, {"b=1 d=", "a= c=1", "a= b=1 c=1 d="},
	} {
		if l, e := attrs.Compose(row(x.a), row(x.b)); show(l) != x.want || e != api.OK {
			t.Error(i, show(l), e)
		}
	}
	for _, a := range changes {
		for _, b := range changes {
			m := table(a)
			for _, x := range b {
				m[x.Key] = x.Value
			}
			if got, e := attrs.Compose(a, b); !slices.Equal(got, ordered(m)) || e != api.OK {
				t.Fatalf("%s, %s: %s %v", show(a), show(b), show(got), e)
			}
		}
	}
	full := many("k", api.MaxAttrs)
	for i, x := range []struct {
		a, b []api.Attr
		n    int
		want api.Errno
	}{
		{full, full, 8, api.OK}, {full, nil, 8, api.OK}, {nil, full, 8, api.OK}, {full, row("ka= kh="), 8, api.OK}, {full, row("z="), 0, api.ErrBig}, {row("z="), full, 0, api.ErrBig},
		{full, row("ka= z=1"), 0, api.ErrBig}, {full[:4], many("z", 4), 8, api.OK}, {full[:5], many("z", 4), 0, api.ErrBig}, {full, many("z", 8), 0, api.ErrBig},
	} {
		if l, e := attrs.Compose(x.a, x.b); len(l) != x.n || e != x.want || e != api.OK && l != nil {
			t.Error(i, show(l), e)
		}
	}
}

func TestP24Follow(t *testing.T) {
	for i, x := range []struct {
		a, b  string
		first bool
		want  string
	}{
		{"b=1", "b=2 i=1", false, "i=1"}, {"b=1", "b=2 i=1", true, "b=2 i=1"}, {"", "", false, ""}, {"", "b=1 i=", false, "b=1 i="}, {"b=1", "", true, ""}, {"b=1", "", false, ""},
		{"b=1", "b=1", false, ""}, {"b=1", "b=1", true, "b=1"}, {"b=", "b=1", false, ""}, {"b=1", "b=", true, "b="}, {"b= d=1", "a= b=1 c=1 d= e=1", false, "a= c=1 e=1"},
	} {
		if l, e := attrs.Follow(row(x.a), row(x.b), x.first); show(l) != x.want || e != api.OK {
			t.Error(i, show(l), e)
		}
	}
	for _, a := range changes {
		for _, b := range changes {
			m := table(b)
			for _, x := range a {
				delete(m, x.Key)
			}
			if got, e := attrs.Follow(a, b, false); !slices.Equal(got, ordered(m)) || e != api.OK {
				t.Fatalf("%s, %s: %s %v", show(a), show(b), show(got), e)
			}
			if got, e := attrs.Follow(a, b, true); !slices.Equal(got, b) || e != api.OK {
				t.Fatalf("%s, %s, first: %s %v", show(a), show(b), show(got), e)
			}
		}
	}
	// What is left is never too much, though both together were.
	full, other := many("k", api.MaxAttrs), many("z", api.MaxAttrs)
	for _, first := range []bool{false, true} {
		if l, e := attrs.Follow(full, other, first); !slices.Equal(l, other) || e != api.OK {
			t.Error(first, show(l), e)
		}
	}
}

func TestP25Invert(t *testing.T) {
	for i, x := range []struct{ l, c, want string }{
		{"b=1 i=1", "b=2 i=1 u=1", "b=1 u="}, {"", "", ""}, {"b=1", "", ""}, {"", "b=", ""}, {"", "b=1", "b="}, {"b=1", "b=1", ""}, {"b=1", "b=", "b=1"}, {"b=1", "b=2", "b=1"},
		{"b=1 d=1", "a=1 b= c= d=2 e=1", "a= b=1 d=1 e="}, {"a=1 c=1", "b=1", "b="},
	} {
		if l, e := attrs.Invert(row(x.l), row(x.c)); show(l) != x.want || e != api.OK {
			t.Error(i, show(l), e)
		}
	}
	for _, l := range lists {
		for _, c := range changes {
			m, old, now := map[string]string{}, table(l), table(applied(l, c))
			for _, x := range c {
				if old[x.Key] != now[x.Key] {
					m[x.Key] = old[x.Key]
				}
			}
			if got, e := attrs.Invert(l, c); !slices.Equal(got, ordered(m)) || e != api.OK {
				t.Fatalf("%s, %s: %s %v", show(l), show(c), show(got), e)
			}
		}
	}
	// Its own error is ErrAttr alone: what would be too much for Apply is undone all the same.
	full, other := many("k", api.MaxAttrs), many("z", api.MaxAttrs)
	if l, e := attrs.Invert(full, other); len(l) != api.MaxAttrs || l[0] != (api.Attr{Key: "za"}) || e != api.OK {
		t.Error(show(l), e)
	}
}

func TestP26Same(t *testing.T) {
	for i, x := range []struct {
		a, b []api.Attr
		want bool
	}{
		{nil, nil, true}, {nil, []api.Attr{}, true}, {[]api.Attr{}, nil, true}, {nil, row("b=1"), false}, {row("b=1"), nil, false}, {row("b=1"), row("b=1"), true},
		{row("b=1"), row("b=2"), false}, {row("b=1"), row("c=1"), false}, {row("b=1"), row("b=1 c=1"), false}, {row("b=1 c=1"), row("b=1"), false},
		{row("b=1 c=1"), row("c=1 b=1"), false}, {row("c=1 b=1"), row("c=1 b=1"), true}, {row("b=1 c=1"), row("b=1 c=2"), false}, {row("b="), nil, false}, {row("b="), row("b="), true},
		{[]api.Attr{{}}, []api.Attr{{}}, true}, {[]api.Attr{{}}, nil, false}, {[]api.Attr{{Key: "\xff", Value: "\n"}}, []api.Attr{{Key: "\xff", Value: "\n"}}, true},
		{[]api.Attr{{Key: "ab", Value: "c"}}, []api.Attr{{Key: "a", Value: "bc"}}, false}, {[]api.Attr{{Key: "\xff"}}, []api.Attr{{Key: "\xfe"}}, false}, {many("k", 100), many("k", 100), true}, {many("k", 100), many("k", 99), false},
	} {
		if got := attrs.Same(x.a, x.b); got != x.want {
			t.Error(i, got)
		}
	}
	for i, a := range changes {
		for j, b := range changes {
			if got := attrs.Same(a, b); got != (i == j) {
				t.Error(show(a), show(b), got)
			}
		}
	}
}

// mark stands in the spare room of what is handed in.
var mark = api.Attr{Key: "spare", Value: "room"}

// spared is a copy of a list, of texts of its own, in a greater one that is full of marks.
func spared(l []api.Attr) []api.Attr {
	all := slices.Repeat([]api.Attr{mark}, len(l)+20)
	for i, x := range l {
		all[i] = api.Attr{Key: strings.Clone(x.Key), Value: strings.Clone(x.Value)}
	}
	return all[:len(l)]
}

// untouched tells whether a spared list is as it was.
func untouched(l, was []api.Attr) bool {
	spare := l[len(l):cap(l)]
	return slices.Equal(l, was) && !slices.ContainsFunc(spare, func(x api.Attr) bool { return x != mark })
}

// shares tells whether the two texts have a byte of memory in common.
func shares(a, b string) bool {
	if a == "" || b == "" {
		return false
	}
	x, y := uintptr(unsafe.Pointer(unsafe.StringData(a))), uintptr(unsafe.Pointer(unsafe.StringData(b)))
	return x < y+uintptr(len(b)) && y < x+uintptr(len(a))
}

// sharing tells whether two lists have a text in common.
func sharing(a, b []api.Attr) bool {
	for _, x := range a {
		for _, y := range b {
			if shares(x.Key, y.Key) || shares(x.Key, y.Value) || shares(x.Value, y.Key) || shares(x.Value, y.Value) {
				return true
			}
		}
	}
	return false
}

// reckonings are the calls that answer a list.
func reckonings() []func(a, b []api.Attr) ([]api.Attr, api.Errno) {
	return []func(a, b []api.Attr) ([]api.Attr, api.Errno){
		attrs.Apply, attrs.Compose, attrs.Invert,
		func(a, b []api.Attr) ([]api.Attr, api.Errno) { return attrs.Follow(a, b, false) },
		func(a, b []api.Attr) ([]api.Attr, api.Errno) { return attrs.Follow(a, b, true) },
	}
}

func TestP27NewMemory(t *testing.T) {
	for i, call := range reckonings() {
		for _, a := range lists {
			for _, b := range changes {
				x, y := spared(a), spared(b)
				out, _ := call(x, y)
				if !untouched(x, a) || !untouched(y, b) {
					t.Fatalf("%d of %s, %s: what was handed in is changed", i, show(a), show(b))
				}
				if sharing(out, x) || sharing(out, y) {
					t.Fatalf("%d of %s, %s: a text shares memory", i, show(a), show(b))
				}
				want := slices.Clone(out)
				other, _ := call(x, y)
				for j := range out[:cap(out)] {
					out[:cap(out)][j] = api.Attr{Key: "written", Value: "over"}
				}
				if !untouched(x, a) || !untouched(y, b) || !slices.Equal(other, want) {
					t.Fatalf("%d of %s, %s: an answer shares memory", i, show(a), show(b))
				}
			}
		}
		full, more := many("k", api.MaxAttrs), many("z", api.MaxAttrs)
		x, y := spared(full), spared(more)
		call(x, y)
		if !untouched(x, full) || !untouched(y, more) {
			t.Errorf("%d: what was handed in is changed", i)
		}
	}
	x, y := spared(row("a=1 b=1")), spared(row("a=1 b=1"))
	attrs.Same(x, y)
	attrs.Right(x)
	attrs.Change(y)
	if !untouched(x, row("a=1 b=1")) || !untouched(y, row("a=1 b=1")) {
		t.Error("what was handed in is changed")
	}
}

// TestP27NothingKept: what is handed in may be written over, and the same call answers anew.
func TestP27NothingKept(t *testing.T) {
	for i, call := range reckonings() {
		x, y := row("a=1 b=1"), row("b=2 c=1")
		before, _ := call(x, y)
		want := show(before)
		x[0], y[0], y[1] = api.Attr{Key: "q", Value: "9"}, api.Attr{Key: "r", Value: "9"}, api.Attr{Key: "s", Value: "9"}
		if show(before) != want {
			t.Error(i, show(before), want)
		}
		if again, _ := call(row("a=1 b=1"), row("b=2 c=1")); show(again) != want {
			t.Error(i, show(again), want)
		}
	}
}

func TestP28ComposeIsOneThenTheOther(t *testing.T) {
	for _, l := range lists {
		for _, a := range changes {
			for _, b := range changes {
				one, e := attrs.Apply(l, a)
				two, f := attrs.Apply(one, b)
				c, g := attrs.Compose(a, b)
				got, h := attrs.Apply(l, c)
				if !attrs.Same(got, two) || e != api.OK || f != api.OK || g != api.OK || h != api.OK {
					t.Fatalf("%s, %s, %s: %s, %s", show(l), show(a), show(b), show(got), show(two))
				}
			}
		}
	}
}

func TestP28InvertBringsBack(t *testing.T) {
	for _, l := range lists {
		for _, c := range changes {
			now, e := attrs.Apply(l, c)
			back, f := attrs.Invert(l, c)
			got, g := attrs.Apply(now, back)
			if !attrs.Same(got, l) || e != api.OK || f != api.OK || g != api.OK {
				t.Fatalf("%s, %s: %s, %s", show(l), show(c), show(back), show(got))
			}
		}
	}
}

func TestP28FollowMeets(t *testing.T) {
	for _, a := range changes {
		for _, b := range changes {
			for _, first := range []bool{false, true} {
				x, e := attrs.Follow(a, b, first)
				y, f := attrs.Follow(b, a, !first)
				p, g := attrs.Compose(a, x)
				q, h := attrs.Compose(b, y)
				if !attrs.Same(p, q) || e != api.OK || f != api.OK || g != api.OK || h != api.OK {
					t.Fatalf("%s, %s, %v: %s, %s", show(a), show(b), first, show(p), show(q))
				}
			}
		}
	}
}
