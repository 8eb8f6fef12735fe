package compose_test

import (
	"math"
	"slices"
	"strings"
	"testing"

	"blotter/api"
	"blotter/apply"
	"blotter/change"
	"blotter/compose"
)

func TestP61Examples(t *testing.T) {
	for i, x := range []struct {
		from    int
		a       string
		between int
		b, want string
	}{
		{3, "+x -1", 3, "=1 +y -1", "+xy -2"}, {2, "=1{b=1}", 2, "=2{i=1}", "=1{b=1,i=1} =1{i=1}"}, {0, "+ab", 2, "-2", ""},
		// What a deletes is deleted, wherever b stands.
		{3, "-3", 0, "", "-3"}, {3, "-3", 0, "+xy", "+xy -3"}, {3, "-1", 2, "=2{b=1}", "-1 =2{b=1}"}, {3, "=1 -1", 2, "-2", "-3"}, {3, "=1 -1", 2, "=1 +x", "=1 +x -1"}, {3, "=1 -1", 2, "=1 +x -1", "=1 +x -2"}, {4, "=1 -1 =1 -1", 2, "-1", "-2 =1 -1"},
		{4, "=1 -1 =1 -1", 2, "=1 -1", "=1 -3"}, {4, "=1 -1 =1 -1", 2, "+x =1 +y =1 +z", "+x =1 +y -1 =1 +z -1"},
		// What b inserts comes with b's attributes, ahead of what a has there.
		{2, "+a", 3, "+b", "+ba"}, {2, "+a", 3, "=1 +b", "+ab"}, {2, "+ac", 4, "=1 +b", "+abc"}, {2, "+ac{i=1}", 4, "=1 +b{b=1}", "+a{i=1} +b{b=1} +c{i=1}"}, {2, "=2{i=1}", 2, "=1 +b{b=1}", "=1{i=1} +b{b=1} =1{i=1}"}, {2, "-2 +ac", 2, "=1 +b", "+abc -2"}, {2, "", 2, "=2 +z", "=2 +z"}, {2, "=2 +y", 3, "=3 +z", "=2 +yz"},
		// What a inserts and b keeps or deletes.
		{0, "+ab", 2, "=1{b=1}", "+a{b=1} +b"}, {0, "+ab{b=1}", 2, "=2{b=}", "+ab"}, {0, "+ab{b=1}", 2, "=1 =1{b=2,i=1}", "+a{b=1} +b{b=2,i=1}"}, {0, "+a +b{b=1}", 2, "=2{b=1}", "+ab{b=1}"}, {0, "+ab{b=1,i=1}", 2, "=2{b=,i=,u=}", "+ab"}, {0, "+é\U0001f600é", 3, "=1 -1", "+éé"}, {1, "+abc", 4, "-1 =1 -2", "+b -1"},
		{0, "+a{b=1} +b{i=1} +c{u=1}", 3, "=1 -1", "+a{b=1} +c{u=1}"}, {0, "+a +b{i=1} +c", 3, "=1 -1", "+ac"},
		// What both keep, or b deletes.
		{2, "=2{b=1}", 2, "=2{b=}", "=2{b=}"}, {2, "=2{b=}", 2, "=2{b=1}", "=2{b=1}"}, {2, "=2{b=1}", 2, "=1", "=2{b=1}"}, {2, "=2{b=1}", 2, "=1 -1", "=1{b=1} -1"}, {2, "=1{b=1} =1{b=2}", 2, "=2{b=3}", "=2{b=3}"}, {2, "=1{b=1} =1", 2, "=1 =1{b=1}", "=2{b=1}"}, {4, "=4{b=1}", 4, "=1 -2 =1{i=1}", "=1{b=1} -2 =1{b=1,i=1}"},
		{3, "", 3, "", ""}, {3, "=3", 3, "=3", ""}, {3, "=1 =1", 3, "=1 =2", ""}, {0, "", 0, "", ""}, {2, "=2{b=1}", 2, "-2", "-2"}, {4, "=1 +x =1 -1 =1{b=1}", 4, "=1{i=1} -1 +y =2{u=1}", "=1{i=1} +y =1{u=1} -1 =1{b=1,u=1}"},
		// Out of the normal form.
		{3, "-1 +x", 3, "-1 +y", "+y -1"}, {3, "=1 -1 +x -1", 2, "=1 +y =1 +z", "=1 +yxz -2"}, {3, "=1{b=1} =1{b=1}", 3, "=1 -1 +x", "=1{b=1} +x -1"},
	} {
		if c, e := compose.Compose(of(x.from, x.a), of(x.between, x.b)); !sameChange(c, of(x.from, x.want)) || e != api.OK {
			t.Error(i, show(c), e)
		}
	}
}

func TestP61OfEach(t *testing.T) {
	n := 0
	pairs(func(a, b api.Change) {
		c, e := compose.Compose(a, b)
		if e != api.OK || !sameChange(c, together(a, b)) || !change.Is(c) {
			t.Fatal(show(a), show(b), show(c), e, show(together(a, b)))
		}
		n++
	})
	if n < 100000 {
		t.Error(n)
	}
}

// refusal is a changeset that may not be, and why.
type refusal struct {
	c    api.Change
	want api.Errno
}

// refusals are changesets that may not be.
func refusals() []refusal {
	l := []refusal{
		{on(-1), api.ErrLength}, {on(math.MinInt), api.ErrLength}, {on(api.MaxText + 1), api.ErrLength}, {on(math.MaxInt), api.ErrLength}, {of(5, "=6"), api.ErrLength}, {of(5, "-3 -3"), api.ErrLength}, {on(5, op(keep, math.MaxInt, "", nil)), api.ErrLength}, {on(5, op(remove, math.MaxInt, "", nil)), api.ErrLength},
		{of(5, "=0"), api.ErrOps}, {of(5, "-0"), api.ErrOps}, {of(5, "+"), api.ErrOps}, {of(5, "-1{b=1}"), api.ErrOps}, {on(5, op(0, 1, "", nil)), api.ErrOps}, {on(5, op(keep, -1, "", nil)), api.ErrOps}, {on(5, op(remove, math.MinInt, "", nil)), api.ErrOps}, {on(5, op(insert, 1, "a", nil)), api.ErrOps}, {on(5, op(keep, 1, "a", nil)), api.ErrOps}, {on(5, api.Op{}), api.ErrOps},
		{of(5, "+\xff"), api.ErrText}, {of(5, "+a\xed\xa0\x80"), api.ErrText}, {on(0, op(insert, 0, long(api.MaxText+1), nil)), api.ErrText},
		{of(5, "+a{b=}"), api.ErrAttr}, {of(5, "=1{i=1,b=1}"), api.ErrAttr}, {of(5, "=1{b=1,b=1}"), api.ErrAttr}, {of(5, "=1{a=1,b=1,c=1,d=1,e=1,f=1,g=1,h=1,i=1}"), api.ErrAttr},
		{of(api.MaxText, "+x"), api.ErrBig}, {striped(api.MaxText, api.MaxOps+1), api.ErrLong}, {striped(5, api.MaxOps+1), api.ErrLong},
	}
	return l
}

func TestP61WrongChangesets(t *testing.T) {
	for _, x := range refusals() {
		for _, y := range append(refusals(), refusal{of(5, "+x"), 0}, refusal{on(x.c.From), 0}, refusal{on(0), 0}, refusal{on(api.MaxText), 0}) {
			if c, e := compose.Compose(x.c, y.c); !none(c) || e != x.want {
				t.Error(show(x.c), show(y.c), show(c), e)
			}
			if y.want != api.OK {
				continue
			}
			if c, e := compose.Compose(y.c, x.c); !none(c) || e != x.want {
				t.Error(show(y.c), show(x.c), show(c), e)
			}
		}
	}
}

func TestP61Lengths(t *testing.T) {
	for i, x := range []struct {
		a, b api.Change
		want api.Errno
	}{
		{of(0, "+a"), on(2), api.ErrLength}, {of(0, "+a"), on(0), api.ErrLength}, {of(0, "+a"), on(1), api.OK}, {of(3, "-1"), on(3), api.ErrLength}, {of(3, "-1"), on(2), api.OK}, {of(3, "+é\U0001f600 -3"), on(2), api.OK}, {of(3, "+é -3"), on(2), api.ErrLength}, {on(3), on(4), api.ErrLength}, {on(3), on(2), api.ErrLength}, {on(0), on(api.MaxText), api.ErrLength},
		{on(0, op(insert, 0, long(api.MaxText), nil)), on(api.MaxText), api.OK}, {on(api.MaxText, op(remove, api.MaxText, "", nil)), on(0, op(insert, 0, long(api.MaxText), nil)), api.OK},
		// ErrLength is told ahead of what would come of them.
		{striped(api.MaxText, api.MaxOps), of(5, "+x"), api.ErrLength}, {of(1, "=1{"+eight+"}"), of(2, "=1{z=1}"), api.ErrLength},
	} {
		if c, e := compose.Compose(x.a, x.b); e != x.want || e != api.OK && !none(c) {
			t.Error(i, show(c), e)
		}
	}
}

// eight is as many attributes as may be.
const eight = "a=1,b=1,c=1,d=1,e=1,f=1,g=1,h=1"

func TestP61ErrBig(t *testing.T) {
	for i, x := range []struct {
		from    int
		a       string
		between int
		b, want string
	}{
		{1, "=1{" + eight + "}", 1, "=1{z=1}", "?"}, {1, "=1{" + eight + "}", 1, "=1{z=}", "?"}, {1, "=1{z=}", 1, "=1{" + eight + "}", "?"}, {1, "=1{" + eight + "}", 1, "=1{a=,z=1}", "?"}, {3, "=2 =1{" + eight + "}", 3, "=3{z=1}", "?"}, {3, "=1{" + eight + "}", 3, "+x =1{z=1} -2", "?"},
		{1, "=1{" + eight + "}", 1, "=1{a=,h=2}", "=1{a=,b=1,c=1,d=1,e=1,f=1,g=1,h=2}"}, {1, "=1{a=1,b=1}", 1, "=1{c=1,d=1,e=1,f=1,g=1,h=}", "=1{a=1,b=1,c=1,d=1,e=1,f=1,g=1,h=}"}, {3, "=1{" + eight + "}", 3, "-1 =2{z=1}", "-1 =2{z=1}"}, {3, "=1{" + eight + "}", 3, "=1 =2{z=1}", "=1{" + eight + "} =2{z=1}"},
		{0, "+a{" + eight + "}", 1, "=1{z=1}", "?"}, {0, "+ab{" + eight + "}", 2, "=1 =1{z=1}", "?"}, {0, "+a{" + eight + "}", 1, "=1{z=}", "+a{" + eight + "}"}, {0, "+a{" + eight + "}", 1, "=1{a=,z=1}", "+a{b=1,c=1,d=1,e=1,f=1,g=1,h=1,z=1}"}, {0, "+a{" + eight + "}", 1, "-1", ""}, {0, "+ab{" + eight + "}", 2, "-1 =1{h=}", "+b{a=1,b=1,c=1,d=1,e=1,f=1,g=1}"},
	} {
		want, wantE := of(x.from, x.want), api.OK
		if x.want == "?" {
			want, wantE = api.Change{}, api.ErrBig
		}
		if c, e := compose.Compose(of(x.from, x.a), of(x.between, x.b)); !sameChange(c, want) || e != wantE {
			t.Error(i, show(c), e)
		}
	}
}

func TestP61ErrLong(t *testing.T) {
	full := striped(api.MaxOps+5, api.MaxOps)
	for i, x := range []struct {
		a, b api.Change
		want api.Errno
	}{
		{full, on(full.From), api.OK}, {full, on(full.From, op(keep, full.From, "", nil)), api.OK}, {full, of(full.From, "+x"), api.ErrLong}, {full, on(full.From, op(keep, full.From, "", nil), op(insert, 0, "x", nil)), api.ErrLong}, {full, of(full.From, "-1"), api.OK}, {full, of(full.From, "=1 -1"), api.OK}, {full, of(full.From, "=1{i=1}"), api.OK},
		{full, of(full.From, "+x -1"), api.ErrLong}, {full, of(full.From, "+x -2"), api.OK}, {full, of(full.From, "=1{b=2}"), api.OK}, {full, of(full.From, "=1{b=2} +x"), api.ErrLong}, {full, of(full.From, "=1{b=2} +x =1{b=1}"), api.OK}, {full, of(full.From, "=1{b=2} +x +y{b=1}"), api.ErrLong}, {striped(api.MaxText-1, api.MaxOps-1), of(api.MaxText-1, "+x"), api.OK},
		{of(full.From, "+x"), striped(full.From+1, api.MaxOps), api.OK}, {of(full.From, "-1"), striped(full.From-1, api.MaxOps), api.ErrLong}, {of(full.From, "-1"), striped(full.From-1, api.MaxOps-1), api.OK},
		// Operations that cut each other: more pieces than either has.
		{cut(999, 0), cut(999, 1), api.OK}, {cut(1000, 0), cut(1000, 1), api.ErrLong},
		// ErrBig first, wherever it comes.
		{on(full.From, append(slices.Clone(full.Ops[1:]), op(keep, 2, "", row(eight)))...), on(full.From, op(insert, 0, "x", nil), op(keep, api.MaxOps, "", nil), op(keep, 1, "", row("z=1"))), api.ErrBig},
		{on(full.From, append(slices.Clone(full.Ops[1:]), op(keep, 2, "", row(eight)))...), on(full.From, op(insert, 0, "x", nil), op(keep, api.MaxOps, "", nil), op(keep, 1, "", row("h=1"))), api.ErrLong},
	} {
		c, e := compose.Compose(x.a, x.b)
		if e != x.want || e != api.OK && !none(c) {
			t.Error(i, show(c), e)
		}
		if want := together(x.a, x.b); e == api.OK && !sameChange(c, want) {
			t.Error(i, show(c), show(want))
		}
		if want := together(x.a, x.b); x.want != api.ErrBig && e == api.OK != (len(want.Ops) <= api.MaxOps) {
			t.Error(i, e, len(want.Ops))
		}
	}
}

// cut is a changeset that lays attributes on the runes, two by two, in turns, from so many on: two of them, one rune apart, have a piece for each rune.
func cut(n, ahead int) api.Change {
	c := on(4 * n)
	if ahead > 0 {
		c.Ops = append(c.Ops, op(keep, ahead, "", nil))
	}
	for i := range n {
		k := string(rune('a' + ahead))
		c.Ops = append(c.Ops, op(keep, 2, "", row(k+"="+string(rune('1'+i%2)))))
	}
	return c
}

func TestP61AtTheLimits(t *testing.T) {
	full := on(0, op(insert, 0, long(api.MaxText), nil))
	gone := on(api.MaxText, op(remove, api.MaxText, "", nil))
	other := on(api.MaxText, op(insert, 0, strings.Repeat("\U0001f600", api.MaxText), row("b=1")), op(remove, api.MaxText, "", nil))
	each := on(api.MaxText)
	for i := range api.MaxOps {
		each.Ops = append(each.Ops, op(keep, api.MaxText/api.MaxOps, "", row([]string{"b=1", "i=1"}[i%2])))
	}
	for i, x := range []struct{ a, b api.Change }{{full, gone}, {gone, full}, {full, other}, {other, gone}, {other, other}, {full, each}, {each, each}, {each, gone}, {each, other}, {gone, on(0)}} {
		c, e := compose.Compose(x.a, x.b)
		if e != api.OK || !sameChange(c, together(x.a, x.b)) {
			t.Error(i, show(c), e)
		}
	}
}

func TestP62All(t *testing.T) {
	for i, x := range []struct {
		n    int
		l    []api.Change
		want api.Change
		e    api.Errno
	}{
		{0, nil, on(0), 0}, {5, nil, on(5), 0}, {5, []api.Change{}, on(5), 0}, {api.MaxText, nil, on(api.MaxText), 0}, {3, []api.Change{of(3, "=1 =1{b=1} =1")}, of(3, "=1 =1{b=1}"), 0}, {3, []api.Change{of(3, "+x -1"), of(3, "=1 +y -1")}, of(3, "+xy -2"), 0}, {0, []api.Change{of(0, "+a"), of(1, "=1 +b"), of(2, "=2 +c"), of(3, "-1")}, of(0, "+bc"), 0},
		{2, []api.Change{of(2, "=2{b=1}"), of(2, "=1{b=}"), of(2, "=1 -1"), of(1, "=1{i=1}")}, of(2, "=1{b=,i=1} -1"), 0},
		// The first error, whatever comes behind it.
		{-1, nil, api.Change{}, api.ErrLength}, {math.MinInt, nil, api.Change{}, api.ErrLength}, {api.MaxText + 1, nil, api.Change{}, api.ErrLength}, {math.MaxInt, nil, api.Change{}, api.ErrLength}, {-1, []api.Change{of(1, "=0")}, api.Change{}, api.ErrLength}, {api.MaxText + 1, []api.Change{on(api.MaxText + 1)}, api.Change{}, api.ErrLength},
		{3, []api.Change{on(2)}, api.Change{}, api.ErrLength}, {3, []api.Change{of(3, "+a"), of(3, "-1")}, api.Change{}, api.ErrLength}, {3, []api.Change{of(3, "+a"), of(4, "=0"), of(4, "+\xff")}, api.Change{}, api.ErrOps}, {3, []api.Change{of(3, "+a"), of(4, "+\xff"), of(4, "=0")}, api.Change{}, api.ErrText}, {3, []api.Change{of(3, "+a"), of(4, "+x{b=}"), of(9, "")}, api.Change{}, api.ErrAttr}, {3, []api.Change{on(4), of(3, "=0")}, api.Change{}, api.ErrLength},
		{1, []api.Change{of(1, "=1{"+eight+"}"), of(1, "=1{z=1}"), of(1, "-1")}, api.Change{}, api.ErrBig}, {1, []api.Change{of(1, "=1{"+eight+"}"), of(1, "-1"), of(0, "+a")}, of(1, "+a -1"), 0}, {api.MaxText, []api.Change{of(api.MaxText, "-1"), of(api.MaxText-1, "+xy"), of(1, "=0")}, api.Change{}, api.ErrBig}, {2001, []api.Change{striped(2001, api.MaxOps), of(2001, "+x"), of(2002, "-1")}, api.Change{}, api.ErrLong},
	} {
		if c, e := compose.All(x.n, x.l); !sameChange(c, x.want) || e != x.e {
			t.Error(i, show(c), e)
		}
	}
}

func TestP62AllIsOneBehindTheOther(t *testing.T) {
	i := 0
	pairs(func(a, b api.Change) {
		if i++; i%10 != 0 {
			return
		}
		l := []api.Change{a, b, of(to(steps(b)), "+z"), of(to(steps(b))+1, "=1{u=1} +é")}
		want := on(a.From)
		for _, c := range l {
			want = together(want, c)
		}
		if c, e := compose.All(a.From, l); !sameChange(c, want) || e != api.OK {
			t.Fatal(show(l), show(c), e)
		}
	})
}

// TestP64OneForTwo: documents become the same by the one as by the two.
func TestP64OneForTwo(t *testing.T) {
	i := 0
	pairs(func(a, b api.Change) {
		if i++; i%3 != 0 {
			return
		}
		c, e := compose.Compose(a, b)
		if e != api.OK {
			t.Fatal(show(a), show(b), e)
		}
		for _, d := range docs(a.From) {
			once, e := apply.Apply(d, c)
			if e != api.OK {
				t.Fatal(show(d), show(c), e)
			}
			first, _ := apply.Apply(d, a)
			if twice, e := apply.Apply(first, b); !sameDoc(once, twice) || e != api.OK {
				t.Fatal(show(d), show(a), show(b), show(once), show(twice), e)
			}
		}
	})
}

func TestP65Nothing(t *testing.T) {
	for from := range 5 {
		for _, c := range every(from, 3) {
			want, _ := change.Normal(c)
			if got, e := compose.Compose(on(from), c); !sameChange(got, want) || e != api.OK {
				t.Fatal(show(c), show(got), e)
			}
			behind := on(to(steps(c)))
			if got, e := compose.Compose(c, behind); !sameChange(got, want) || e != api.OK {
				t.Fatal(show(c), show(got), e)
			}
			if behind.From > 0 {
				behind.Ops = []api.Op{op(keep, behind.From, "", nil)}
			}
			if got, e := compose.Compose(c, behind); !sameChange(got, want) || e != api.OK {
				t.Fatal(show(c), show(got), e)
			}
		}
	}
}

func TestP65OfThree(t *testing.T) {
	i := 0
	pairs(func(a, b api.Change) {
		if i++; i%11 != 0 {
			return
		}
		n := to(steps(b))
		l := every(n, 2)
		c := l[i%len(l)]
		ab, e1 := compose.Compose(a, b)
		x, e2 := compose.Compose(ab, c)
		bc, e3 := compose.Compose(b, c)
		y, e4 := compose.Compose(a, bc)
		if !sameChange(x, y) || e1|e2|e3|e4 != api.OK {
			t.Fatal(show(a), show(b), show(c), show(x), show(y), e1, e2, e3, e4)
		}
	})
}
