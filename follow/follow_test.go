package follow_test

import (
	"math"
	"slices"
	"strconv"
	"strings"
	"testing"

	"blotter/api"
	"blotter/apply"
	"blotter/change"
	"blotter/compose"
	"blotter/follow"
)

func TestP71Examples(t *testing.T) {
	for i, x := range []struct {
		on    int
		a, b  string
		first bool
		from  int
		want  string
	}{
		{3, "+x", "+y", false, 4, "=1 +y"}, {3, "+x", "+y", true, 4, "+y"}, {3, "=1 -1", "=1 +y -2", false, 2, "=1 +y -1"}, {3, "=1{b=1}", "=2{b=2}", false, 3, "=1 =1{b=2}"},
		// Both insert: whose comes first, and all of it.
		{0, "+ab", "+yz", false, 2, "=2 +yz"}, {0, "+ab", "+yz", true, 2, "+yz"}, {0, "+a +b{b=1}", "+y +z{i=1}", false, 2, "=2 +y +z{i=1}"}, {0, "+a +b{b=1}", "+y +z{i=1}", true, 2, "+y +z{i=1}"}, {3, "=1 +x", "=2 +y", true, 4, "=3 +y"}, {3, "=2 +x", "=1 +y", false, 4, "=1 +y"}, {2, "=1 +é\U0001f600", "=1 +y =1 +z", false, 4, "=3 +y =1 +z"}, {2, "=1 +é\U0001f600", "=1 +y =1 +z", true, 4, "=1 +y =3 +z"}, {3, "=3 +x", "=3 +y", false, 4, "=4 +y"}, {3, "=3 +x", "=3 +y", true, 4, "=3 +y"},
		// One of them inserts.
		{3, "=1 +xy", "", false, 5, ""}, {3, "", "=1 +xy{b=1}", false, 3, "=1 +xy{b=1}"}, {3, "=1 +xy", "-3", false, 5, "-1 =2 -2"}, {3, "=1 +xy", "-3", true, 5, "-1 =2 -2"}, {3, "=1 +xy", "=3{b=1}", true, 5, "=1{b=1} =2 =2{b=1}"}, {3, "-3", "=1 +xy", false, 0, "+xy"}, {3, "-3", "+x =1 +y =1 +z =1 +x", false, 0, "+xyzx"}, {3, "-2", "=1 +y{b=1} =1 +z{b=1} =1{b=1}", true, 1, "+yz{b=1} =1{b=1}"},
		{3, "+x -3", "=1 +y", false, 1, "=1 +y"}, {3, "+x -3", "=1 +y", true, 1, "=1 +y"}, {3, "+x -3", "+y", true, 1, "+y"}, {3, "=3{b=1}", "=1 +y{b=2}", false, 3, "=1 +y{b=2}"},
		// What is gone is gone once.
		{3, "-3", "-3", false, 0, ""}, {3, "-3", "-3", true, 0, ""}, {3, "-2", "=1 -2", false, 1, "-1"}, {3, "=1 -2", "-2", true, 1, "-1"}, {3, "=1 -1", "-3", false, 2, "-2"}, {3, "-1", "=3{b=1}", false, 2, "=2{b=1}"}, {3, "-3", "=3{b=1}", true, 0, ""}, {3, "=3{b=1}", "-3", false, 3, "-3"}, {4, "=1 -2", "=1{b=1} =2 =1{b=1}", false, 2, "=2{b=1}"}, {3, "+x -3", "+y -3", false, 1, "=1 +y"}, {3, "+x -3", "+y -3", true, 1, "+y"},
		// Both keep: what is left of b's attributes.
		{3, "=3{b=1}", "=3{b=2}", false, 3, ""}, {3, "=3{b=1}", "=3{b=2}", true, 3, "=3{b=2}"}, {3, "=3{b=1}", "=3{b=1}", false, 3, ""}, {3, "=3{b=1}", "=3{b=1}", true, 3, "=3{b=1}"}, {3, "=3{b=}", "=3{b=2,i=1}", false, 3, "=3{i=1}"}, {3, "=3{b=2,i=1}", "=3{b=}", true, 3, "=3{b=}"}, {3, "=3{b=2,i=1}", "=3{b=,u=}", false, 3, "=3{u=}"}, {3, "=1 =1{b=1} =1{i=1}", "=3{b=2,i=2}", false, 3, "=1{b=2,i=2} =1{i=2} =1{b=2}"}, {3, "=1{b=1} =1 =1{b=1}", "=2 =1{b=2}", false, 3, ""}, {3, "=3{i=1}", "=1{b=1,i=2} =1{b=1} =1{b=1,i=3}", false, 3, "=3{b=1}"},
		// Out of the normal form, and behind the last operation.
		{3, "", "", false, 3, ""}, {3, "=3", "=1 =2", true, 3, ""}, {0, "", "", true, 0, ""}, {3, "=1 -1 +x", "=1 -1 +y", false, 3, "=2 +y"}, {3, "=1 -1 +x", "=1 -1 +y", true, 3, "=1 +y"}, {3, "-1 +x -1 +z", "-1 +y", false, 3, "=2 +y"}, {4, "=1{b=1} =1{b=1}", "=1{b=2} =2{b=2} =1", false, 4, "=2 =1{b=2}"}, {3, "=1 -1 =1", "=2 +y -1 +z", false, 2, "=1 +yz -1"},
	} {
		if c, e := follow.Follow(of(x.on, x.a), of(x.on, x.b), x.first); !sameChange(c, of(x.from, x.want)) || e != api.OK {
			t.Error(i, show(c), e)
		}
	}
}

func TestP71OfEach(t *testing.T) {
	n := 0
	pairs(func(a, b api.Change) {
		for _, first := range []bool{false, true} {
			c, e := follow.Follow(a, b, first)
			if e != api.OK || !sameChange(c, behind(a, b, first)) || !change.Is(c) {
				t.Fatal(show(a), show(b), first, show(c), e, show(behind(a, b, first)))
			}
			n++
		}
	})
	if n < 100000 {
		t.Error(n)
	}
}

// refusal is a changeset that may not be, and why.
type refusal struct {
	c    api.Change
	want api.Errno
}

// refusals are changesets that may not be.
func refusals() []refusal {
	return []refusal{
		{on(-1), api.ErrLength}, {on(math.MinInt), api.ErrLength}, {on(api.MaxText + 1), api.ErrLength}, {on(math.MaxInt), api.ErrLength}, {of(5, "=6"), api.ErrLength}, {of(5, "-3 -3"), api.ErrLength}, {on(5, op(keep, math.MaxInt, "", nil)), api.ErrLength}, {on(5, op(remove, math.MaxInt, "", nil)), api.ErrLength},
		{of(5, "=0"), api.ErrOps}, {of(5, "-0"), api.ErrOps}, {of(5, "+"), api.ErrOps}, {of(5, "-1{b=1}"), api.ErrOps}, {on(5, op(0, 1, "", nil)), api.ErrOps}, {on(5, op(keep, -1, "", nil)), api.ErrOps}, {on(5, op(remove, math.MinInt, "", nil)), api.ErrOps}, {on(5, op(insert, 1, "a", nil)), api.ErrOps}, {on(5, op(keep, 1, "a", nil)), api.ErrOps}, {on(5, api.Op{}), api.ErrOps},
		{of(5, "+\xff"), api.ErrText}, {of(5, "+a\xed\xa0\x80"), api.ErrText}, {on(0, op(insert, 0, long(api.MaxText+1), nil)), api.ErrText},
		{of(5, "+a{b=}"), api.ErrAttr}, {of(5, "=1{i=1,b=1}"), api.ErrAttr}, {of(5, "=1{b=1,b=1}"), api.ErrAttr}, {of(5, "=1{a=1,b=1,c=1,d=1,e=1,f=1,g=1,h=1,i=1}"), api.ErrAttr},
		{of(api.MaxText, "+x"), api.ErrBig}, {striped(api.MaxText, api.MaxOps+1), api.ErrLong}, {striped(5, api.MaxOps+1), api.ErrLong},
	}
}

// TestP71WrongChangesets: the first one's error, then the second's, ahead of lengths that do not fit.
func TestP71WrongChangesets(t *testing.T) {
	for _, x := range refusals() {
		for _, y := range append(refusals(), refusal{of(5, "+x"), 0}, refusal{on(0), 0}, refusal{on(api.MaxText), 0}) {
			for _, first := range []bool{false, true} {
				if c, e := follow.Follow(x.c, y.c, first); !none(c) || e != x.want {
					t.Error(show(x.c), show(y.c), show(c), e)
				}
				if y.want != api.OK {
					continue
				}
				if c, e := follow.Follow(y.c, x.c, first); !none(c) || e != x.want {
					t.Error(show(y.c), show(x.c), show(c), e)
				}
			}
		}
	}
}

func TestP71Lengths(t *testing.T) {
	for i, x := range []struct {
		a, b api.Change
		want api.Errno
	}{
		{on(3), on(4), api.ErrLength}, {on(3), on(2), api.ErrLength}, {on(0), on(api.MaxText), api.ErrLength}, {on(api.MaxText), on(0), api.ErrLength}, {of(3, "+x"), on(4), api.ErrLength}, {of(3, "-1"), on(2), api.ErrLength}, {on(0), on(0), api.OK}, {on(api.MaxText), on(api.MaxText), api.OK}, {of(3, "+x"), of(3, "-3"), api.OK},
		// ErrLength is told ahead of what would come of them.
		{of(api.MaxText-1, "+x"), of(api.MaxText-2, "+yz"), api.ErrLength}, {of(4000, "=1 +x"), striped(4001, api.MaxOps), api.ErrLength},
	} {
		for _, first := range []bool{false, true} {
			if c, e := follow.Follow(x.a, x.b, first); e != x.want || e != api.OK && !none(c) {
				t.Error(i, first, show(c), e)
			}
		}
	}
}

// text is an insert of so many runes.
func text(n int) api.Op { return op(insert, 0, long(n), nil) }

// TestP71ErrBig: it hangs on how many runes there are behind both.
func TestP71ErrBig(t *testing.T) {
	m := api.MaxText
	for i, x := range []struct {
		a, b api.Change
		want api.Errno
	}{
		{on(0, text(m)), on(0), api.OK}, {on(0), on(0, text(m)), api.OK}, {on(0, text(m)), on(0, text(1)), api.ErrBig}, {on(0, text(1)), on(0, text(m)), api.ErrBig}, {on(0, text(m)), on(0, text(m)), api.ErrBig}, {on(0, text(m-1)), on(0, text(1)), api.OK}, {on(0, text(1)), on(0, text(m-1)), api.OK}, {on(0, text(m/2)), on(0, text(m/2)), api.OK}, {on(0, text(m/2+1)), on(0, text(m/2)), api.ErrBig},
		{of(m-1, "+x"), of(m-1, "+y"), api.ErrBig}, {of(m-1, "=5 +x"), of(m-1, "=9 +y"), api.ErrBig}, {of(m-2, "+x"), of(m-2, "+y"), api.OK}, {of(m-1, "+x"), of(m-1, "+y -1"), api.OK}, {of(m-1, "+x"), of(m-1, "+yy -1"), api.ErrBig}, {of(m-1, "+x -1"), of(m-1, "+y"), api.OK}, {of(m, "-1"), of(m, "+y -1"), api.OK},
		// What both delete is gone once: each may be, but not both.
		{of(m, "+x -1"), of(m, "+y -1"), api.ErrBig}, {of(m, "+x -1"), of(m, "=1 +y -1"), api.OK}, {of(m, "-1"), of(m, "+yy -2"), api.OK}, {on(m, text(m), op(remove, m, "", nil)), on(m, text(m), op(remove, m, "", nil)), api.ErrBig}, {on(m, text(m), op(remove, m, "", nil)), on(m, op(remove, m, "", nil)), api.OK}, {on(m, op(remove, m, "", nil)), on(m, text(m), op(remove, m, "", nil)), api.OK}, {on(m, text(m), op(remove, m, "", nil)), on(m, text(1), op(remove, 1, "", nil)), api.ErrBig},
		// The deletes may come last.
		{on(m-1, text(1)), on(m-1, text(9), op(keep, m-9, "", nil), op(remove, 8, "", nil)), api.ErrBig}, {on(m-1, text(1)), on(m-1, text(9), op(keep, m-10, "", nil), op(remove, 9, "", nil)), api.OK},
	} {
		for _, first := range []bool{false, true} {
			c, e := follow.Follow(x.a, x.b, first)
			if e != x.want || e != api.OK && !none(c) || e == api.OK && !sameChange(c, behind(x.a, x.b, first)) {
				t.Error(i, first, show(c), e)
			}
		}
	}
}

// apart is a changeset that deletes every other one of its first runes, or puts an x ahead of each, so many in all.
func apart(from, n int, what api.Op) api.Change {
	c := on(from)
	for range n {
		c.Ops = append(c.Ops, op(keep, 1, "", nil), what)
	}
	return c
}

func TestP71ErrLong(t *testing.T) {
	m := api.MaxOps
	x, gone := op(insert, 0, "x", nil), op(remove, 1, "", nil)
	for i, c := range []struct {
		a, b  api.Change
		first bool
		want  api.Errno
	}{
		// All of them stand there as they were, but for what a has put in or changed.
		{on(m), striped(m, m), false, api.OK}, {of(m, "-1"), striped(m, m), false, api.OK}, {of(m, "+x"), striped(m, m), true, api.ErrLong}, {of(m, "+x"), striped(m, m-1), true, api.OK}, {of(m, "=2000 +x"), striped(m, m), false, api.OK}, {of(m, "=1{b=3}"), striped(m, m), false, api.OK}, {of(m, "=1999 =1{b=3}"), striped(m, m), false, api.OK}, {of(m, "=1{b=3}"), striped(m, m), true, api.OK},
		// What a has put in cuts a keep in three.
		{of(m, "=1 +x"), striped(m, m), false, api.ErrLong}, {of(m, "=1 +x"), striped(m, m-1), true, api.OK}, {apart(m, m/2-1, x), of(m, "=2000{b=1}"), false, api.OK}, {apart(m, m/2, x), of(m, "=2000{b=1}"), false, api.ErrLong}, {apart(m, m/2, x), of(m, "=1000{b=1}"), false, api.OK}, {apart(m, m/2-1, x), of(m, "-2000"), true, api.OK}, {apart(m, m/2, x), of(m, "-2000"), true, api.ErrLong}, {apart(m, m/2, x), of(m, "-1000"), true, api.OK},
		// What a keeps of b's attributes.
		{striped(m+1, m), on(m+1, op(keep, m+1, "", row("b=3,i=1"))), false, api.OK}, {striped(m+1, m), on(m+1, op(keep, m+1, "", row("b=3"))), false, api.OK}, {spots(m+1, m/2), of(m+1, "=2001{b=3}"), false, api.ErrLong}, {spots(m+1, m/2), of(m+1, "=2000{b=3}"), false, api.OK}, {spots(m+1, m/2), of(m+1, "=2001{b=3}"), true, api.OK},
		// More pieces than may be, fewer in the normal form.
		{apart(4*m, m/2, gone), apart(4*m, m/2, x), false, api.OK}, {apart(4*m, m/2, gone), striped(4*m, m), true, api.OK}, {on(4*m, op(remove, 4*m, "", nil)), apart(4*m, m/2, x), false, api.OK}, {striped(4*m, m), striped(4*m, m), false, api.OK},
		// ErrBig is told ahead of it.
		{of(api.MaxText-1, "=1 +x"), on(api.MaxText-1, append(slices.Clone(striped(m, m-1).Ops), x)...), false, api.ErrBig}, {of(api.MaxText-2, "=1 +x"), on(api.MaxText-2, append(slices.Clone(striped(m, m-1).Ops), x)...), false, api.ErrLong},
	} {
		out, e := follow.Follow(c.a, c.b, c.first)
		want := behind(c.a, c.b, c.first)
		if e != c.want || e != api.OK && !none(out) || e == api.OK && !sameChange(out, want) {
			t.Error(i, show(out), e)
		}
		if c.want != api.ErrBig && e == api.OK != (len(want.Ops) <= api.MaxOps) {
			t.Error(i, e, len(want.Ops))
		}
	}
}

// spots is a changeset that lays attributes on every other rune, so many in all.
func spots(from, n int) api.Change {
	c := on(from)
	for range n {
		c.Ops = append(c.Ops, op(keep, 1, "", nil), op(keep, 1, "", row("b=1")))
	}
	return c
}

func TestP71AtTheLimits(t *testing.T) {
	m := api.MaxText
	full, gone := on(0, text(m)), on(m, op(remove, m, "", nil))
	each := on(m)
	for i := range api.MaxOps {
		each.Ops = append(each.Ops, op(keep, m/api.MaxOps, "", row([]string{"b=1", "i=1"}[i%2])))
	}
	for i, x := range []struct{ a, b api.Change }{{full, on(0)}, {on(0), full}, {gone, gone}, {gone, each}, {each, gone}, {each, each}, {each, of(m, "=20000{b=2}")}, {of(m, "=20000{b=2}"), each}, {gone, on(m, text(m), op(remove, m, "", row("")))}} {
		for _, first := range []bool{false, true} {
			c, e := follow.Follow(x.a, x.b, first)
			if e != api.OK || !sameChange(c, behind(x.a, x.b, first)) {
				t.Error(i, first, show(c), e)
			}
		}
	}
}

// eight is as many attributes as may be.
const eight = "a=1,b=1,c=1,d=1,e=1,f=1,g=1,h=1"

// TestP71ManyAttributes: of two changes with more attributes than may be together none is too big: what follows has b's alone.
func TestP71ManyAttributes(t *testing.T) {
	other := strings.NewReplacer("a", "i", "b", "j", "c", "k", "d", "l", "e", "m", "f", "n", "g", "o", "h", "p").Replace(eight)
	for _, first := range []bool{false, true} {
		if c, e := follow.Follow(of(1, "=1{"+eight+"}"), of(1, "=1{"+other+"}"), first); !sameChange(c, of(1, "=1{"+other+"}")) || e != api.OK {
			t.Error(first, show(c), e)
		}
	}
	if c, e := follow.Follow(of(1, "=1{"+eight+"}"), of(1, "=1{h=2,z=1}"), false); !sameChange(c, of(1, "=1{z=1}")) || e != api.OK {
		t.Error(show(c), e)
	}
}

func TestP72Past(t *testing.T) {
	for i, x := range []struct {
		l    []api.Change
		b    api.Change
		want api.Change
		e    api.Errno
	}{
		{nil, of(3, "=1 =1{b=1} =1"), of(3, "=1 =1{b=1}"), 0}, {[]api.Change{}, of(3, "-1 +x"), of(3, "+x -1"), 0}, {nil, on(0), on(0), 0}, {[]api.Change{on(3), of(3, "=3")}, of(3, "-1 +x"), of(3, "+x -1"), 0},
		// None of them gives way, b neither: what it inserts comes last.
		{[]api.Change{of(3, "+x")}, of(3, "+y"), of(4, "=1 +y"), 0}, {[]api.Change{of(3, "+x"), of(4, "=1 +z")}, of(3, "+y"), of(5, "=2 +y"), 0}, {[]api.Change{of(3, "+x"), of(4, "+z")}, of(3, "+y"), of(5, "=2 +y"), 0}, {[]api.Change{of(3, "=3{b=1}"), of(3, "=1{i=1}")}, of(3, "=3{b=2,i=2,u=2}"), of(3, "=1{u=2} =2{i=2,u=2}"), 0},
		{[]api.Change{of(3, "=1 -1"), of(2, "-2"), of(0, "+ab"), of(2, "=1 +c")}, of(3, "=1 +y -2"), of(3, "=3 +y"), 0}, {[]api.Change{of(3, "-3"), of(0, "+ab")}, of(3, "=1{b=1} =1 -1"), of(2, ""), 0},
		// The first error, b's own ahead of all.
		{[]api.Change{of(3, "=0")}, of(3, "+\xff"), api.Change{}, api.ErrText}, {nil, of(3, "+\xff"), api.Change{}, api.ErrText}, {nil, of(3, "=4"), api.Change{}, api.ErrLength}, {nil, on(-1), api.Change{}, api.ErrLength}, {nil, of(api.MaxText, "+x"), api.Change{}, api.ErrBig}, {nil, striped(5, api.MaxOps+1), api.Change{}, api.ErrLong}, {[]api.Change{on(4)}, on(-1, op(0, 0, "", nil)), api.Change{}, api.ErrLength}, {[]api.Change{on(4), of(3, "=0")}, of(3, "-0"), api.Change{}, api.ErrOps},
		{[]api.Change{of(3, "=0")}, on(4), api.Change{}, api.ErrOps}, {[]api.Change{on(4)}, on(3), api.Change{}, api.ErrLength}, {[]api.Change{of(3, "+a"), on(3)}, on(3), api.Change{}, api.ErrLength}, {[]api.Change{of(3, "+a"), of(4, "=0"), of(4, "+\xff")}, on(3), api.Change{}, api.ErrOps}, {[]api.Change{of(3, "+a"), of(4, "+\xff"), of(4, "=0")}, on(3), api.Change{}, api.ErrText}, {[]api.Change{on(4), of(3, "=0")}, on(3), api.Change{}, api.ErrLength}, {[]api.Change{on(3), of(3, "+a{b=}")}, on(3), api.Change{}, api.ErrAttr},
	} {
		if c, e := follow.Past(x.l, x.b); !sameChange(c, x.want) || e != x.e {
			t.Error(i, show(c), e)
		}
	}
}

// TestP72OnTheWay: there may be too much on the way, though there were less in the end.
func TestP72OnTheWay(t *testing.T) {
	m, o := api.MaxText, api.MaxOps
	for i, x := range []struct {
		l    []api.Change
		b    api.Change
		want api.Errno
	}{
		{[]api.Change{of(m-1, "+x"), of(m, "-9")}, of(m-1, "+y"), api.ErrBig}, {[]api.Change{of(m-1, "-9"), of(m-10, "+x")}, of(m-1, "+y"), api.OK}, {[]api.Change{of(m-1, "-1"), of(m-2, "+xx")}, of(m-1, "+y"), api.ErrBig},
		{[]api.Change{of(o, "=1 +x"), of(o+1, "-3")}, striped(o, o), api.ErrLong}, {[]api.Change{of(o, "-1"), of(o-1, "=1 +x")}, striped(o, o), api.OK}, {[]api.Change{of(o, "-1"), of(o-1, "=1 +x"), of(o, "=3 +x"), of(o+1, "-9")}, striped(o, o), api.ErrLong},
		{[]api.Change{of(o, "=1 +x"), of(o+1, "=0"), on(9)}, striped(o, o), api.ErrLong}, {[]api.Change{of(o, "-1"), of(o-1, "=0"), on(9)}, striped(o, o), api.ErrOps},
	} {
		c, e := follow.Past(x.l, x.b)
		if e != x.want || e != api.OK && !none(c) {
			t.Error(i, show(c), e)
		}
		if want := x.b; e == api.OK {
			for _, a := range x.l {
				want = behind(a, want, false)
			}
			if !sameChange(c, want) {
				t.Error(i, show(c), show(want))
			}
		}
	}
}

// rows is called with many rows of three changesets, one behind the other, and one beside them.
func rows(step int, do func(l []api.Change, b api.Change)) {
	i := 0
	pairs(func(a, b api.Change) {
		if i++; i%step != 0 {
			return
		}
		n := to(steps(a))
		second := every(n, 2)[i%len(every(n, 2))]
		n = to(steps(second))
		third := every(n, 2)[i/7%len(every(n, 2))]
		do([]api.Change{a, second, third}, b)
	})
}

func TestP72OneBehindTheOther(t *testing.T) {
	rows(17, func(l []api.Change, b api.Change) {
		want := b
		for _, a := range l {
			want = behind(a, want, false)
		}
		if c, e := follow.Past(l, b); !sameChange(c, want) || e != api.OK {
			t.Fatal(show(l), show(b), show(c), e, show(want))
		}
	})
}

// TestP74TheyMeet: in either order two changesets come to the same.
func TestP74TheyMeet(t *testing.T) {
	i := 0
	pairs(func(a, b api.Change) {
		first := i%2 == 0
		i++
		bLast, e1 := follow.Follow(a, b, first)
		aLast, e2 := follow.Follow(b, a, !first)
		x, e3 := compose.Compose(a, bLast)
		y, e4 := compose.Compose(b, aLast)
		if !sameChange(x, y) || e1|e2|e3|e4 != api.OK {
			t.Fatal(show(a), show(b), first, show(bLast), show(aLast), show(x), show(y), e1, e2, e3, e4)
		}
	})
}

// all is what changesets make of a document, one behind another.
func all(d []api.Run, l ...api.Change) ([]api.Run, api.Errno) {
	e := api.OK
	for i := 0; i < len(l) && e == api.OK; i++ {
		d, e = apply.Apply(d, l[i])
	}
	return d, e
}

func TestP74OneDocument(t *testing.T) {
	i := 0
	pairs(func(a, b api.Change) {
		if i++; i%3 != 0 {
			return
		}
		first := i%2 == 0
		bLast, _ := follow.Follow(a, b, first)
		aLast, _ := follow.Follow(b, a, !first)
		for _, d := range docs(a.From) {
			x, e1 := all(d, a, bLast)
			y, e2 := all(d, b, aLast)
			if !sameDoc(x, y) || e1|e2 != api.OK {
				t.Fatal(show(d), show(a), show(b), first, show(x), show(y), e1, e2)
			}
		}
	})
}

func TestP75Nothing(t *testing.T) {
	for from := range 5 {
		for i, c := range every(from, 3) {
			want, _ := change.Normal(c)
			for _, nothing := range []string{"", "=" + strconv.Itoa(from)} {
				if from == 0 {
					nothing = ""
				}
				if got, e := follow.Follow(of(from, nothing), c, i%2 == 0); !sameChange(got, want) || e != api.OK {
					t.Fatal(show(c), show(got), e)
				}
				if got, e := follow.Follow(c, of(from, nothing), i%2 == 0); !sameChange(got, on(to(steps(c)))) || e != api.OK {
					t.Fatal(show(c), show(got), e)
				}
			}
		}
	}
}

// TestP75ManyMeet: a row, and then one that was beside it, makes what that one makes, and then the row, each behind it, first.
func TestP75ManyMeet(t *testing.T) {
	rows(29, func(l []api.Change, b api.Change) {
		past, e := follow.Past(l, b)
		if e != api.OK {
			t.Fatal(show(l), show(b), e)
		}
		now, other := b, []api.Change{b}
		for _, a := range l {
			c, e1 := follow.Follow(now, a, true)
			next, e2 := follow.Follow(a, now, false)
			if e1|e2 != api.OK {
				t.Fatal(show(l), show(b), e1, e2)
			}
			now, other = next, append(other, c)
		}
		x, e1 := compose.All(b.From, append(slices.Clone(l), past))
		y, e2 := compose.All(b.From, other)
		if !sameChange(x, y) || e1|e2 != api.OK {
			t.Fatal(show(l), show(b), show(x), show(y), e1, e2)
		}
		for _, d := range docs(b.From) {
			x, e1 := all(d, append(slices.Clone(l), past)...)
			y, e2 := all(d, other...)
			if !sameDoc(x, y) || e1|e2 != api.OK {
				t.Fatal(show(d), show(l), show(b), show(x), show(y), e1, e2)
			}
		}
	})
}
