package change_test

import (
	"fmt"
	"math"
	"slices"
	"strconv"
	"strings"
	"testing"
	"unsafe"

	"blotter/api"
	"blotter/change"
)

// row reads attributes as the document's examples write them, with a comma between two.
func row(s string) []api.Attr {
	var l []api.Attr
	for _, f := range strings.FieldsFunc(s, func(r rune) bool { return r == ',' }) {
		k, v, _ := strings.Cut(f, "=")
		l = append(l, api.Attr{Key: k, Value: v})
	}
	return l
}

// of reads a changeset: =2 keeps, +x inserts, -1 deletes; {b=1} behind that are attributes.
func of(from int, s string) api.Change {
	c := api.Change{From: from}
	for _, f := range strings.Fields(s) {
		f, l, _ := strings.Cut(strings.TrimSuffix(f, "}"), "{")
		o := api.Op{Attrs: row(l)}
		if f[0] == '+' {
			o.Kind, o.Text = api.OpInsert, f[1:]
		} else {
			o.Kind = map[byte]int{'=': api.OpKeep, '-': api.OpDelete}[f[0]]
			o.N, _ = strconv.Atoi(f[1:])
		}
		c.Ops = append(c.Ops, o)
	}
	return c
}

// show tells a changeset, whatever it is.
func show(c api.Change) string {
	s := fmt.Sprintf("%d: %+v", c.From, c.Ops)
	return s[:min(len(s), 1000)]
}

// same holds two against each other by their fields.
func same(a, b api.Change) bool {
	return a.From == b.From && slices.EqualFunc(a.Ops, b.Ops, func(x, y api.Op) bool {
		return x.Kind == y.Kind && x.N == y.N && x.Text == y.Text && slices.Equal(x.Attrs, y.Attrs)
	})
}

// step is what is done to one rune.
type step struct {
	kind  int
	r     rune
	attrs string
}

// steps are a changeset's, as the document's words tell their order; those that only keep are left out at the end.
func steps(c api.Change) []step {
	var all, inserts, deletes []step
	flush := func() {
		all = append(append(all, inserts...), deletes...)
		inserts, deletes = nil, nil
	}
	for _, o := range c.Ops {
		s := step{kind: o.Kind, attrs: fmt.Sprint(o.Attrs)}
		if len(o.Attrs) == 0 {
			s.attrs = ""
		}
		for range o.N {
			if o.Kind == api.OpDelete {
				deletes = append(deletes, s)
			} else {
				flush()
				all = append(all, s)
			}
		}
		for _, r := range o.Text {
			s.r = r
			inserts = append(inserts, s)
		}
	}
	flush()
	for len(all) > 0 && all[len(all)-1] == (step{kind: api.OpKeep}) {
		all = all[:len(all)-1]
	}
	return all
}

// cell is a rune of a document, with all changes of attributes that were laid on it.
type cell struct {
	r     rune
	attrs string
}

// carry is what a changeset makes of a document, operation by operation.
func carry(c api.Change) []cell {
	var old, now []cell
	for i := range c.From {
		old = append(old, cell{r: rune('A' + i)})
	}
	for _, o := range c.Ops {
		for _, x := range old[:o.N] {
			if o.Kind == api.OpKeep {
				for _, a := range o.Attrs {
					x.attrs += a.Key + "=" + a.Value + " "
				}
				now = append(now, x)
			}
		}
		old = old[o.N:]
		for _, r := range o.Text {
			now = append(now, cell{r, fmt.Sprint("put", o.Attrs)})
		}
	}
	return append(now, old...)
}

// isNormal is the document's own list of what a normal one has not.
func isNormal(c api.Change) bool {
	for i, o := range c.Ops {
		if i == len(c.Ops)-1 {
			return o.Kind != api.OpKeep || len(o.Attrs) > 0
		}
		next := c.Ops[i+1]
		if o.Kind == next.Kind && slices.Equal(o.Attrs, next.Attrs) || o.Kind == api.OpDelete && next.Kind == api.OpInsert {
			return false
		}
	}
	return true
}

// The operations that the changesets of every are made of.
var pieces = of(0, "=1 =2 =1{b=} =1{b=1} +a +\u00e9 +a{b=1} -1 -2").Ops

// every is called with each changeset on 4 runes of up to 5 pieces.
func every(do func(c api.Change)) {
	var grow func(l []api.Op)
	grow = func(l []api.Op) {
		do(api.Change{From: 4, Ops: slices.Clone(l)})
		if len(l) < 5 {
			for _, o := range pieces {
				grow(append(l, o))
			}
		}
	}
	grow(nil)
}

// all are those of every that may be.
func all() []api.Change {
	var l []api.Change
	every(func(c api.Change) {
		through := 0
		for _, o := range c.Ops {
			through += o.N
		}
		if through <= c.From {
			l = append(l, c)
		}
	})
	return l
}

// filled is a changeset of so many operations, all of which stand in its normal form.
func filled(n int) api.Change {
	c := api.Change{From: api.MaxText}
	for i := range n {
		c.Ops = append(c.Ops, api.Op{Kind: api.OpKeep, N: 1, Attrs: row("b=" + strconv.Itoa(i%2+1))})
	}
	return c
}

// long is a text of so many runes.
func long(n int) string { return strings.Repeat("\u00e9", n) }

// op is one operation.
func op(kind, n int, text string, l []api.Attr) api.Op {
	return api.Op{Kind: kind, N: n, Text: text, Attrs: l}
}

// on is a changeset of these operations.
func on(from int, l ...api.Op) api.Change { return api.Change{From: from, Ops: l} }

const (
	keep   = api.OpKeep
	insert = api.OpInsert
	remove = api.OpDelete
)

// refusal is a changeset that may not be, and why.
type refusal struct {
	c    api.Change
	want api.Errno
}

// wrongOps are operations that may not be, each with what is told of it.
func wrongOps() []refusal {
	var l []refusal
	add := func(want api.Errno, ops ...api.Op) {
		for _, o := range ops {
			l = append(l, refusal{on(5, o), want})
		}
	}
	for _, kind := range []int{0, 4, -1, 5, math.MinInt, math.MaxInt} {
		add(api.ErrOps, op(kind, 1, "", nil), op(kind, 0, "a", nil), op(kind, 0, "", nil), op(kind, 9, "\xff", row("b")))
	}
	for _, kind := range []int{keep, remove} {
		for _, n := range []int{0, -1, math.MinInt} {
			add(api.ErrOps, op(kind, n, "", nil), op(kind, n, "a", nil))
		}
		add(api.ErrOps, op(kind, 1, "a", nil), op(kind, 1, "\xff", nil), op(kind, 6, "a", nil), op(kind, 1, "x", row("b=")))
		add(api.ErrLength, op(kind, 6, "", nil), op(kind, math.MaxInt, "", nil))
	}
	for _, n := range []int{1, -1, 6, math.MinInt, math.MaxInt} {
		add(api.ErrOps, op(insert, n, "a", nil), op(insert, n, "", nil), op(insert, n, "\xff", row("b")))
	}
	add(api.ErrOps, op(insert, 0, "", nil), op(insert, 0, "", row("b=")))
	add(api.ErrOps, op(remove, 1, "", row("b=1")), op(remove, 1, "", row("b=")), op(remove, 9, "", row("b=1")), op(remove, 1, "", []api.Attr{{}}))
	add(api.ErrText, op(insert, 0, "\xff", nil), op(insert, 0, "a\x80", nil), op(insert, 0, "\xed\xa0\x80", nil), op(insert, 0, long(api.MaxText+1), nil), op(insert, 0, "\xff", row("b=")))
	wrong := [][]api.Attr{row("i=1,b=1"), row("b=1,b=1"), {{}}, {{Key: "a b", Value: "1"}}, {{Key: "b", Value: "\n"}}, {{Key: strings.Repeat("k", api.MaxAttrKey+1), Value: "1"}}, row("a=1,b=1,c=1,d=1,e=1,f=1,g=1,h=1,i=1")}
	for _, a := range wrong {
		add(api.ErrAttr, op(keep, 1, "", a), op(keep, 6, "", a), op(insert, 0, "a", a))
	}
	add(api.ErrAttr, op(insert, 0, "a", row("b=")), op(insert, 0, "a", row("a=1,b=")))
	return l
}

// refusals are changesets that may not be.
func refusals() []refusal {
	l := wrongOps()
	first := l[0].c.Ops[0]
	for _, from := range []int{-1, math.MinInt, api.MaxText + 1, math.MaxInt} {
		tooMany := filled(api.MaxOps + 1)
		tooMany.From = from
		l = append(l, refusal{on(from), api.ErrLength}, refusal{on(from, first), api.ErrLength}, refusal{tooMany, api.ErrLength})
	}
	tooMany := filled(api.MaxOps + 1)
	l = append(l, refusal{tooMany, api.ErrLong}, refusal{filled(3 * api.MaxOps), api.ErrLong})
	broken := change.Clone(tooMany)
	broken.Ops[0] = first
	l = append(l, refusal{broken, api.ErrLong})
	for _, x := range []struct {
		from int
		s    string
		want api.Errno
	}{
		{0, "=1", api.ErrLength}, {0, "-1", api.ErrLength}, {0, "+abc =1", api.ErrLength}, {0, "+abc -1", api.ErrLength}, {5, "=3 =3", api.ErrLength}, {5, "-3 -3", api.ErrLength}, {5, "=3 -3", api.ErrLength}, {5, "-3 =3", api.ErrLength},
		{5, "-5 +abcde =1", api.ErrLength}, {5, "=5 +a -1", api.ErrLength}, {5, "=1 =9223372036854775807", api.ErrLength}, {5, "-1 -9223372036854775807", api.ErrLength}, {5, "=5 =9223372036854775803", api.ErrLength},
		{5, "=9223372036854775807 =9223372036854775807", api.ErrLength}, {5, "=6 -0", api.ErrLength}, {5, "-0 =6", api.ErrOps}, {5, "=1 +a{b=} -0", api.ErrAttr}, {5, "=1 -0 +a{b=}", api.ErrOps}, {5, "=6 +a{b=}", api.ErrLength}, {5, "+a{b=} =6", api.ErrAttr},
		{api.MaxText, "+x", api.ErrBig}, {api.MaxText, "-1 +xy", api.ErrBig}, {api.MaxText, "=20000 +x", api.ErrBig}, {api.MaxText - 1, "+x +y", api.ErrBig}, {api.MaxText, "+x -0", api.ErrOps}, {api.MaxText, "+x =20001", api.ErrLength}, {api.MaxText, "+x +y{b=}", api.ErrAttr},
	} {
		l = append(l, refusal{of(x.from, x.s), x.want})
	}
	full := op(insert, 0, long(api.MaxText), nil)
	return append(l, refusal{on(0, full, full), api.ErrBig}, refusal{on(1, full), api.ErrBig}, refusal{on(api.MaxText, full, op(remove, api.MaxText-1, "", nil)), api.ErrBig}, refusal{on(0, full, op(insert, 0, "\xff", nil)), api.ErrText})
}

// right are changesets that may be, at the limits, with how many runes there are then.
func right() []struct {
	c  api.Change
	to int
} {
	full := op(insert, 0, long(api.MaxText), nil)
	most := row("a=1,b=1,c=1,d=1,e=1,f=1,g=1,h=1")
	return []struct {
		c  api.Change
		to int
	}{
		{on(0), 0}, {on(5), 5}, {on(api.MaxText), api.MaxText}, {api.Change{From: 5, Ops: []api.Op{}}, 5}, {of(5, "=2 +x -1"), 5}, {of(5, "=5"), 5}, {of(5, "-5"), 0}, {of(5, "=1{b=}"), 5}, {of(0, "+abc"), 3}, {of(3, "+\u00e9\u00e9 -3"), 2},
		{of(5, "=1 =1 -1 +x -1 =1"), 4}, {of(5, "+\U0001f600"), 6}, {on(0, full), api.MaxText}, {on(api.MaxText, full, op(remove, api.MaxText, "", nil)), api.MaxText}, {on(api.MaxText, op(remove, api.MaxText, "", nil), full), api.MaxText},
		{on(api.MaxText, op(insert, 0, "x", nil), op(remove, 1, "", nil)), api.MaxText}, {on(api.MaxText, op(keep, api.MaxText, "", nil)), api.MaxText}, {filled(api.MaxOps), api.MaxText},
		{on(5, op(keep, 1, "", most), op(insert, 0, "a", most)), 6}, {on(5, op(remove, 1, "", []api.Attr{}), op(insert, 0, "\n\x00", []api.Attr{})), 6}, {on(5, op(keep, 1, "", row("a=,b=1,c="))), 5},
	}
}

func TestP31Right(t *testing.T) {
	for i, x := range right() {
		if e := change.Right(x.c); e != api.OK {
			t.Error(i, show(x.c), e)
		}
	}
	for _, x := range refusals() {
		if e := change.Right(x.c); e != x.want {
			t.Error(show(x.c), e, x.want)
		}
	}
	// Another operation ahead takes no error away, nor does one behind.
	for _, x := range wrongOps() {
		o := x.c.Ops[0]
		for i, c := range []api.Change{on(8, append(of(0, "=1 +a -2").Ops, o)...), on(5, append([]api.Op{o}, of(0, "=1 +a -1").Ops...)...), on(5, o, op(keep, 0, "", nil)), on(5, o, op(insert, 0, "\xff", nil))} {
			if e := change.Right(c); e != x.want {
				t.Error(i, show(c), e, x.want)
			}
		}
	}
}

func TestP31RightOfEach(t *testing.T) {
	n := 0
	every(func(c api.Change) {
		want, through := api.OK, 0
		for _, o := range c.Ops {
			through += o.N
		}
		if through > c.From {
			want = api.ErrLength
		}
		if e := change.Right(c); e != want {
			t.Fatal(show(c), e, want)
		}
		n++
	})
	if n != 1+9+81+729+6561+59049 {
		t.Error(n)
	}
}

func TestP32To(t *testing.T) {
	for i, x := range right() {
		if n, e := change.To(x.c); n != x.to || e != api.OK {
			t.Error(i, show(x.c), n, e)
		}
	}
	for _, x := range refusals() {
		if n, e := change.To(x.c); n != 0 || e != x.want {
			t.Error(show(x.c), n, e, x.want)
		}
	}
	for _, c := range all() {
		if n, e := change.To(c); n != len(carry(c)) || e != api.OK {
			t.Fatal(show(c), n, e)
		}
	}
}

func TestP33Normal(t *testing.T) {
	for i, x := range []struct{ s, want string }{
		{"=1 =1 -1 +x -1 =1", "=2 +x -2"}, {"", ""}, {"=5", ""}, {"=1 =4", ""}, {"=1 -1 =3", "=1 -1"}, {"=1{b=1} =4", "=1{b=1}"}, {"=1{b=1} =2{b=1}", "=3{b=1}"}, {"=1{b=1} =2{b=}", "=1{b=1} =2{b=}"}, {"=1 =1{b=1} =1", "=1 =1{b=1}"},
		{"=1 +a =1 =1", "=1 +a"}, {"-1 -2", "-3"}, {"+a +b", "+ab"}, {"+a{b=1} +b{b=1} +c", "+ab{b=1} +c"}, {"+a +b{b=1} +c", "+a +b{b=1} +c"}, {"+a{b=1} +b{b=2}", "+a{b=1} +b{b=2}"}, {"+a{b=1} +b{b=1,i=1}", "+a{b=1} +b{b=1,i=1}"},
		{"-1 +a", "+a -1"}, {"-1 +a -1 +b{b=1} -1 +c{b=1}", "+a +bc{b=1} -3"}, {"+a -1 +b", "+ab -1"}, {"-1 =1 +a", "-1 =1 +a"}, {"-1 =1 -1 +a", "-1 =1 +a -1"}, {"-1 =1{b=1} +a -1 =1 =1", "-1 =1{b=1} +a -1"},
		{"=1 -1 =1 -1 +x", "=1 -1 =1 +x -1"}, {"=1 +a =1 -1 +b", "=1 +a =1 +b -1"}, {"+\u00e9 -1 +\u010a", "+\u00e9\u010a -1"}, {"=5{b=}", "=5{b=}"},
	} {
		if c, e := change.Normal(of(5, x.s)); !same(c, of(5, x.want)) || e != api.OK {
			t.Error(i, show(c), e)
		}
	}
	for _, x := range refusals() {
		if c, e := change.Normal(x.c); c.From != 0 || c.Ops != nil || e != x.want {
			t.Error(show(x.c), show(c), e, x.want)
		}
	}
	for _, c := range all() {
		n, e := change.Normal(c)
		if e != api.OK || !isNormal(n) || n.From != c.From {
			t.Fatal(show(c), show(n), e)
		}
		if !slices.Equal(steps(n), steps(c)) || !slices.Equal(carry(n), carry(c)) {
			t.Fatal(show(c), show(n))
		}
	}
}

func TestP33NormalAtTheLimits(t *testing.T) {
	c := filled(api.MaxOps)
	if n, e := change.Normal(c); !same(n, c) || e != api.OK {
		t.Error(show(n), e)
	}
	part := api.MaxText / api.MaxOps
	c, text := api.Change{}, ""
	for i := range api.MaxOps {
		s := strings.Repeat(string(rune(0x10000+i)), part)
		c.Ops = append(c.Ops, op(insert, 0, s, nil))
		text += s
	}
	if n, e := change.Normal(c); !same(n, on(0, op(insert, 0, text, nil))) || e != api.OK {
		t.Error(show(n), e)
	}
	// Inserts and deletes by turns, more than the text may have at a time.
	c = api.Change{From: api.MaxText}
	for range api.MaxOps / 2 {
		c.Ops = append(c.Ops, op(remove, 20, "", nil), op(insert, 0, long(20), nil))
	}
	if n, e := change.Normal(c); !same(n, on(api.MaxText, op(insert, 0, long(api.MaxText), nil), op(remove, api.MaxText, "", nil))) || e != api.OK {
		t.Error(show(n), e)
	}
	c = api.Change{From: api.MaxText}
	for range api.MaxOps {
		c.Ops = append(c.Ops, op(keep, 10, "", nil))
	}
	if n, e := change.Normal(c); !same(n, on(api.MaxText)) || e != api.OK {
		t.Error(show(n), e)
	}
}

func TestP34Is(t *testing.T) {
	for i, x := range []struct {
		c    api.Change
		want bool
	}{
		{of(5, ""), true}, {of(5, "=5"), false}, {of(5, "=1"), false}, {of(5, "=1{b=}"), true}, {of(5, "=1 -1"), true}, {of(5, "=1 =1 -1"), false}, {of(5, "=1 =1{b=1}"), true}, {of(5, "=1{b=1} =1"), false}, {of(5, "=1{b=1} =1{b=1}"), false},
		{of(5, "+a -1"), true}, {of(5, "-1 +a"), false}, {of(5, "-1 =1 +a"), true}, {of(5, "+a +b"), false}, {of(5, "+a +b{b=1}"), true}, {of(5, "-1 -1"), false}, {of(5, "+a -1 =1{b=1} +a -1"), true}, {of(5, "+a -1 =1"), false},
		{of(0, ""), true}, {api.Change{From: 5, Ops: []api.Op{}}, true}, {on(5, op(remove, 1, "", []api.Attr{})), true}, {filled(api.MaxOps), true},
	} {
		if got := change.Is(x.c); got != x.want {
			t.Error(i, show(x.c), got)
		}
	}
	for _, x := range refusals() {
		if change.Is(x.c) {
			t.Error(show(x.c))
		}
	}
	for _, c := range all() {
		if got := change.Is(c); got != isNormal(c) {
			t.Fatal(show(c), got)
		}
	}
}

func TestP34Nothing(t *testing.T) {
	for _, n := range []int{0, 1, 5, api.MaxText - 1, api.MaxText} {
		if c, e := change.Nothing(n); c.From != n || len(c.Ops) != 0 || e != api.OK {
			t.Error(n, show(c), e)
		}
	}
	for _, n := range []int{-1, math.MinInt, -api.MaxText, api.MaxText + 1, math.MaxInt} {
		if c, e := change.Nothing(n); c.From != 0 || c.Ops != nil || e != api.ErrLength {
			t.Error(n, show(c), e)
		}
	}
}

// sundry are changesets of any kind, no two of which are the same.
func sundry() []api.Change {
	l := []api.Change{
		of(5, ""), of(6, ""), of(-1, ""), of(math.MaxInt, ""), of(5, "=1"), of(5, "=2"), of(5, "-1"), of(5, "+a"), of(5, "+b"), of(5, "+a{b=1}"), of(5, "+a{b=2}"), of(5, "+a{c=1}"), of(5, "+a{b=1,c=1}"), of(5, "+a{c=1,b=1}"),
		of(5, "=1{b=1}"), of(5, "=1{b=}"), of(6, "=1"), of(5, "=1 =1"), of(5, "=1 -1"), of(5, "-1 =1"), of(5, "-1{b=1}"), of(5, "+ab"), of(5, "+a +b"), of(5, "-1 +a"), of(5, "+a -1"), of(5, "=1 =1 =1"),
		on(5, op(0, 0, "", nil)), on(5, op(0, 1, "", nil)), on(5, op(0, 0, "a", nil)), on(5, op(7, 0, "", nil)), on(5, op(0, 0, "", []api.Attr{{}})), on(5, op(0, 0, "", []api.Attr{{}, {}})), on(5, op(0, 0, "\xff", nil)), on(5, op(0, 0, "\xfe", nil)),
		on(5, op(keep, 1, "a", row("b=1"))), on(5, op(keep, math.MinInt, "", nil)), on(5, op(keep, math.MaxInt, "", nil)), on(5, op(0, 0, "", nil), op(0, 0, "", nil)), on(5, op(insert, 0, "", []api.Attr{{Key: "\xff", Value: "\n"}})),
	}
	return append(l, filled(api.MaxOps), filled(2*api.MaxOps), on(0, op(insert, 0, long(2*api.MaxText), nil)))
}

func TestP34Same(t *testing.T) {
	other := sundry()
	for i, a := range sundry() {
		for j, b := range other {
			if got := change.Same(a, b); got != (i == j) {
				t.Error(show(a), show(b), got)
			}
		}
	}
	// No operations, no attributes: a nil list and an empty one.
	for i, x := range [][2]api.Change{{on(5), {From: 5, Ops: []api.Op{}}}, {on(5, op(keep, 1, "", nil)), on(5, op(keep, 1, "", []api.Attr{}))}, {{}, {Ops: []api.Op{}}}} {
		if !change.Same(x[0], x[1]) || !change.Same(x[1], x[0]) {
			t.Error(i)
		}
	}
}

func TestP34Clone(t *testing.T) {
	for _, c := range sundry() {
		if got := change.Clone(c); !same(got, c) {
			t.Error(show(c), show(got))
		}
	}
	for _, c := range all() {
		if got := change.Clone(c); !same(got, c) {
			t.Fatal(show(c), show(got))
		}
	}
	c := api.Change{From: 5, Ops: []api.Op{{Kind: keep, N: 1, Attrs: []api.Attr{}}}}
	if got := change.Clone(c); !same(got, c) {
		t.Error(show(got))
	}
}

// span is a piece of memory.
type span struct{ from, to uintptr }

// listSpan is a list's memory, its spare room among it.
func listSpan[T any](l []T) span {
	at := uintptr(unsafe.Pointer(unsafe.SliceData(l)))
	var one T
	return span{at, at + uintptr(cap(l))*unsafe.Sizeof(one)}
}

// textSpan is a text's memory.
func textSpan(s string) span {
	at := uintptr(unsafe.Pointer(unsafe.StringData(s)))
	return span{at, at + uintptr(len(s))}
}

// spans are all memory of a changeset, piece by piece.
func spans(c api.Change) []span {
	l := []span{listSpan(c.Ops)}
	for _, o := range c.Ops {
		l = append(l, textSpan(o.Text), listSpan(o.Attrs))
		for _, a := range o.Attrs {
			l = append(l, textSpan(a.Key), textSpan(a.Value))
		}
	}
	return slices.DeleteFunc(l, func(x span) bool { return x.from == x.to })
}

// meet tells whether two pieces of memory have a byte in common.
func meet(l []span) bool {
	slices.SortFunc(l, func(x, y span) int { return int(x.from) - int(y.from) })
	for i := 1; i < len(l); i++ {
		if l[i].from < l[i-1].to {
			return true
		}
	}
	return false
}

// The marks that stand in the spare room of what is handed in.
var (
	markAttr = api.Attr{Key: "spare", Value: "room"}
	markOp   = api.Op{Kind: 9, N: 9, Text: "spare"}
)

// spared is a changeset of lists that have spare room, full of marks, and of texts of its own.
func spared(c api.Change) api.Change {
	ops := slices.Repeat([]api.Op{markOp}, len(c.Ops)+20)
	for i, o := range c.Ops {
		l := slices.Repeat([]api.Attr{markAttr}, len(o.Attrs)+20)
		for j, a := range o.Attrs {
			l[j] = api.Attr{Key: strings.Clone(a.Key), Value: strings.Clone(a.Value)}
		}
		ops[i] = api.Op{Kind: o.Kind, N: o.N, Text: strings.Clone(o.Text), Attrs: l[:len(o.Attrs)]}
	}
	return api.Change{From: c.From, Ops: ops[:len(c.Ops)]}
}

// untouched tells whether a spared one is as it was.
func untouched(c, was api.Change) bool {
	for _, o := range c.Ops[len(c.Ops):cap(c.Ops)] {
		if o.Kind != markOp.Kind || o.N != markOp.N || o.Text != markOp.Text || o.Attrs != nil {
			return false
		}
	}
	for _, o := range c.Ops {
		if slices.ContainsFunc(o.Attrs[len(o.Attrs):cap(o.Attrs)], func(x api.Attr) bool { return x != markAttr }) {
			return false
		}
	}
	return same(c, was)
}

// overwrite writes over all that a changeset's lists hold, their spare room, too.
func overwrite(c api.Change) {
	ops := c.Ops[:cap(c.Ops)]
	for i := range ops {
		l := ops[i].Attrs[:cap(ops[i].Attrs)]
		for j := range l {
			l[j] = api.Attr{Key: "written", Value: "over"}
		}
		ops[i] = markOp
	}
}

// newMemory tells whether what a call answers is new memory, and leaves what is handed in.
func newMemory(c api.Change, call func(c api.Change) api.Change) string {
	in := spared(c)
	out, again := call(in), call(in)
	if !untouched(in, c) {
		return "what was handed in is changed"
	}
	if meet(slices.Concat(spans(in), spans(out), spans(again))) {
		return "memory is shared"
	}
	want := spared(out)
	overwrite(out)
	if !untouched(in, c) || !same(again, want) {
		return "an answer shares memory"
	}
	overwrite(in)
	if !same(again, want) || !same(call(spared(c)), want) {
		return "something is kept"
	}
	return ""
}

func TestP35NewMemory(t *testing.T) {
	clone := change.Clone
	normal := func(c api.Change) api.Change {
		n, _ := change.Normal(c)
		return n
	}
	try := func(c api.Change) {
		if s := newMemory(c, clone); s != "" {
			t.Fatal("Clone", show(c), s)
		}
		if s := newMemory(c, normal); s != "" {
			t.Fatal("Normal", show(c), s)
		}
	}
	for _, c := range sundry() {
		try(c)
	}
	for i, c := range all() {
		if i%7 == 0 {
			try(c)
		}
	}
	// Attributes and texts of its own each, where two operations were handed in with the same.
	l := row("b=1")
	c := on(5, op(keep, 1, "", l), op(insert, 0, "a", l), op(keep, 1, "", l), op(insert, 0, "a", l))
	for i, out := range []api.Change{clone(c), normal(c)} {
		if !same(out, c) || meet(slices.Concat(spans(out), []span{listSpan(l), textSpan("a"), textSpan(l[0].Key), textSpan(l[0].Value)})) {
			t.Error(i, show(out))
		}
	}
	a, _ := change.Nothing(5)
	b, _ := change.Nothing(5)
	if meet(append(spans(a), spans(b)...)) {
		t.Error("two answers of Nothing share memory")
	}
}

func TestP35ChangesNothing(t *testing.T) {
	l := sundry()
	for _, x := range refusals() {
		l = append(l, x.c)
	}
	for _, c := range append(l, of(5, "=1 =1 -1 +x -1 =1")) {
		in, other := spared(c), spared(c)
		change.Right(in)
		change.To(in)
		change.Normal(in)
		change.Is(in)
		change.Clone(in)
		change.Same(in, other)
		if !untouched(in, c) || !untouched(other, c) {
			t.Error(show(c))
		}
	}
}

func TestP36NormalOfNormal(t *testing.T) {
	for _, c := range all() {
		n, e := change.Normal(c)
		again, f := change.Normal(n)
		if e != api.OK || f != api.OK || !same(again, n) || change.Right(n) != api.OK || !change.Is(n) {
			t.Fatal(show(c), show(n), show(again))
		}
		to, g := change.To(c)
		now, h := change.To(n)
		if to != now || g != api.OK || h != api.OK {
			t.Fatal(show(c), to, now)
		}
	}
}

// cuts are the changesets that say the same as another one, with one operation cut in two, or an insert behind the delete that it stood ahead of.
func cuts(c api.Change) []api.Change {
	var l []api.Change
	add := func(at, gone int, ops ...api.Op) {
		l = append(l, api.Change{From: c.From, Ops: slices.Concat(c.Ops[:at], ops, c.Ops[at+gone:])})
	}
	for i, o := range c.Ops {
		for n := 1; n < o.N; n++ {
			add(i, 1, op(o.Kind, n, "", o.Attrs), op(o.Kind, o.N-n, "", o.Attrs))
		}
		for at := range o.Text {
			if at > 0 {
				add(i, 1, op(insert, 0, o.Text[:at], o.Attrs), op(insert, 0, o.Text[at:], o.Attrs))
			}
		}
		if i > 0 && c.Ops[i-1].Kind == insert && o.Kind == remove {
			add(i-1, 2, o, c.Ops[i-1])
		}
	}
	return l
}

func TestP36OneNormalForm(t *testing.T) {
	many := 0
	for _, c := range append(all(), of(5, "=2 +x\u00e9y{b=1} +z -2"), of(5, "=3{b=1} +x\u00e9y -2")) {
		want, _ := change.Normal(c)
		for _, x := range cuts(want) {
			if n, e := change.Normal(x); !same(n, want) || e != api.OK {
				t.Fatal(show(c), show(x), show(n), e)
			}
			if change.Is(x) {
				t.Fatal(show(x))
			}
			many++
		}
	}
	if many == 0 {
		t.Error("nothing was cut")
	}
}

// TestP36FormsByWhatTheySay: two have one normal form if, and only if, they take the same steps.
func TestP36FormsByWhatTheySay(t *testing.T) {
	form := map[string]api.Change{}
	says := map[string]string{}
	for _, c := range all() {
		n, _ := change.Normal(c)
		key, text := fmt.Sprint(steps(c)), show(n)
		if was, ok := form[key]; ok && !same(was, n) {
			t.Fatal(show(c), show(n), show(was))
		}
		if was, ok := says[text]; ok && was != key {
			t.Fatal(show(c), show(n), was)
		}
		form[key], says[text] = n, key
	}
}
