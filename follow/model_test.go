package follow_test

import (
	"fmt"
	"slices"
	"strconv"
	"strings"

	"blotter/api"
)

const (
	keep   = api.OpKeep
	insert = api.OpInsert
	remove = api.OpDelete
)

// row reads attributes as the document's examples write them, with a comma between two.
func row(s string) []api.Attr {
	var l []api.Attr
	for _, f := range strings.FieldsFunc(s, func(r rune) bool { return r == ',' }) {
		k, v, _ := strings.Cut(f, "=")
		l = append(l, api.Attr{Key: k, Value: v})
	}
	return l
}

// spelled is the way back.
func spelled(l []api.Attr) string {
	var s []string
	for _, a := range l {
		s = append(s, a.Key+"="+a.Value)
	}
	return strings.Join(s, ",")
}

// parts reads a{b=1} as a and b=1.
func parts(s string) (string, []api.Attr) {
	s, l, _ := strings.Cut(strings.TrimSuffix(s, "}"), "{")
	return s, row(l)
}

// doc reads a document, run by run: ab{b=1} cd.
func doc(s string) []api.Run {
	var d []api.Run
	for _, f := range strings.Fields(s) {
		text, l := parts(f)
		d = append(d, api.Run{Text: text, Attrs: l})
	}
	return d
}

// of reads a changeset: =2 keeps, +x inserts, -1 deletes; {b=1} behind that are attributes.
func of(from int, s string) api.Change {
	c := api.Change{From: from}
	for _, f := range strings.Fields(s) {
		f, l := parts(f)
		o := api.Op{Attrs: l}
		if f[0] == '+' {
			o.Kind, o.Text = insert, f[1:]
		} else {
			o.Kind = map[byte]int{'=': keep, '-': remove}[f[0]]
			o.N, _ = strconv.Atoi(f[1:])
		}
		c.Ops = append(c.Ops, o)
	}
	return c
}

// on is a changeset of these operations.
func on(from int, l ...api.Op) api.Change { return api.Change{From: from, Ops: l} }

// op is one operation.
func op(kind, n int, text string, l []api.Attr) api.Op {
	return api.Op{Kind: kind, N: n, Text: text, Attrs: l}
}

// long is a text of so many runes.
func long(n int) string { return strings.Repeat("é", n) }

// show tells anything, not all of it.
func show(x any) string {
	s := fmt.Sprintf("%+v", x)
	return s[:min(len(s), 1000)]
}

// sameDoc holds two documents against each other by their fields.
func sameDoc(a, b []api.Run) bool {
	return slices.EqualFunc(a, b, func(x, y api.Run) bool { return x.Text == y.Text && slices.Equal(x.Attrs, y.Attrs) })
}

// sameChange holds two changesets against each other by their fields.
func sameChange(a, b api.Change) bool {
	return a.From == b.From && slices.EqualFunc(a.Ops, b.Ops, func(x, y api.Op) bool {
		return x.Kind == y.Kind && x.N == y.N && x.Text == y.Text && slices.Equal(x.Attrs, y.Attrs)
	})
}

// none tells whether a changeset is the zero value.
func none(c api.Change) bool { return c.From == 0 && c.Ops == nil }

// step is what is done to one rune.
type step struct {
	kind  int
	r     rune
	attrs string
}

// steps are a changeset's in its normal form, rune by rune, up to the end of what it is on.
func steps(c api.Change) []step {
	var all, deletes []step
	left := c.From
	for _, o := range c.Ops {
		s := step{kind: o.Kind, attrs: spelled(o.Attrs)}
		for range o.N {
			left--
			if o.Kind == remove {
				deletes = append(deletes, s)
			} else {
				all = append(append(all, deletes...), s)
				deletes = nil
			}
		}
		for _, r := range o.Text {
			s.r = r
			all = append(all, s)
		}
	}
	return slices.Concat(all, deletes, slices.Repeat([]step{{kind: keep}}, left))
}

// to is how many runes there are behind steps.
func to(l []step) int {
	n := len(l)
	for _, s := range l {
		if s.kind == remove {
			n--
		}
	}
	return n
}

// fold is the normal changeset of what is done, rune by rune: between two keeps the inserts, then the deletes; at the end no keep that leaves all as it is.
func fold(from int, l []step) api.Change {
	c := api.Change{From: from}
	for gap, i := 0, 0; i <= len(l); i++ {
		if i == len(l) || l[i].kind == keep {
			slices.SortStableFunc(l[gap:i], func(x, y step) int { return x.kind - y.kind })
			gap = i + 1
		}
	}
	for len(l) > 0 && l[len(l)-1] == (step{kind: keep}) {
		l = l[:len(l)-1]
	}
	for i, s := range l {
		if i == 0 || l[i-1].kind != s.kind || l[i-1].attrs != s.attrs {
			c.Ops = append(c.Ops, api.Op{Kind: s.kind, Attrs: row(s.attrs)})
		}
		o := &c.Ops[len(c.Ops)-1]
		if s.kind == insert {
			o.Text += string(s.r)
		} else {
			o.N++
		}
	}
	return c
}

// left is what is left of a change of attributes behind another one.
func left(old, now string, first bool) string {
	l := row(now)
	if !first {
		l = slices.DeleteFunc(l, func(x api.Attr) bool {
			return slices.ContainsFunc(row(old), func(y api.Attr) bool { return x.Key == y.Key })
		})
	}
	return spelled(l)
}

// behind is what b says behind a, by the rules of P7.1, rune by rune, where no limit is passed.
func behind(a, b api.Change, first bool) api.Change {
	x, y := steps(a), steps(b)
	from := to(x)
	var l []step
	for len(x) > 0 || len(y) > 0 {
		puts := len(x) > 0 && x[0].kind == insert
		switch {
		case len(y) > 0 && y[0].kind == insert && (!puts || first):
			l, y = append(l, y[0]), y[1:]
		case puts:
			l, x = append(l, step{kind: keep}), x[1:]
		case x[0].kind == remove:
			x, y = x[1:], y[1:]
		case y[0].kind == remove:
			l, x, y = append(l, y[0]), x[1:], y[1:]
		default:
			l = append(l, step{kind: keep, attrs: left(x[0].attrs, y[0].attrs, first)})
			x, y = x[1:], y[1:]
		}
	}
	return fold(from, l)
}

// every are the changesets of up to so many pieces that fit so many runes.
func every(from, most int) []api.Change {
	pieces := of(0, "=1 =2 =1{b=1} =1{b=} =2{b=2,i=1} +x +éa{b=1} -1 -2").Ops
	var out []api.Change
	var grow func(l []api.Op, left int)
	grow = func(l []api.Op, left int) {
		out = append(out, on(from, slices.Clone(l)...))
		if len(l) == most {
			return
		}
		for _, o := range pieces {
			if o.N <= left {
				grow(append(l, o), left-o.N)
			}
		}
	}
	grow(nil, from)
	return out
}

// pairs is called with many changesets, one beside the other: all of two operations, some of three, not in their normal forms alone.
func pairs(do func(a, b api.Change)) {
	for from := range 5 {
		few, l := every(from, 2), every(from, 3)
		for _, a := range few {
			for _, b := range few {
				do(a, b)
			}
		}
		for i, a := range l {
			for j := i % 13; j < len(l); j += 13 {
				do(a, l[j])
			}
		}
	}
}

// docs are documents of so many runes.
func docs(n int) [][]api.Run {
	switch n {
	case 0:
		return [][]api.Run{nil}
	case 1:
		return [][]api.Run{doc("A"), doc("A{b=1}")}
	case 2:
		return [][]api.Run{doc("AÖ"), doc("A{b=1} B{b=2,i=1}")}
	case 3:
		return [][]api.Run{doc("A ÖA{b=1}"), doc("A{b=1} B{b=2,i=1} C{i=1}")}
	}
	return [][]api.Run{doc("A ÖA{b=1} C"), doc("AA{b=1} B{b=2,i=1} C{i=1}")}
}

// striped is a changeset of so many operations, all of which stand in its normal form.
func striped(from, n int) api.Change {
	c := on(from)
	for i := range n {
		c.Ops = append(c.Ops, op(keep, 1, "", row("b="+strconv.Itoa(i%2+1))))
	}
	return c
}
