package apply_test

import (
	"fmt"
	"slices"
	"strconv"
	"strings"

	"blotter/api"
)

const (
	keep   = api.OpKeep
	insert = api.OpInsert
	remove = api.OpDelete
)

// row reads attributes as the document's examples write them, with a comma between two.
func row(s string) []api.Attr {
	var l []api.Attr
	for _, f := range strings.FieldsFunc(s, func(r rune) bool { return r == ',' }) {
		k, v, _ := strings.Cut(f, "=")
		l = append(l, api.Attr{Key: k, Value: v})
	}
	return l
}

// spelled is the way back.
func spelled(l []api.Attr) string {
	var s []string
	for _, a := range l {
		s = append(s, a.Key+"="+a.Value)
	}
	return strings.Join(s, ",")
}

// parts reads a{b=1} as a and b=1.
func parts(s string) (string, []api.Attr) {
	s, l, _ := strings.Cut(strings.TrimSuffix(s, "}"), "{")
	return s, row(l)
}

// doc reads a document, run by run: ab{b=1} cd.
func doc(s string) []api.Run {
	var d []api.Run
	for _, f := range strings.Fields(s) {
		text, l := parts(f)
		d = append(d, api.Run{Text: text, Attrs: l})
	}
	return d
}

// of reads a changeset: =2 keeps, +x inserts, -1 deletes; {b=1} behind that are attributes.
func of(from int, s string) api.Change {
	c := api.Change{From: from}
	for _, f := range strings.Fields(s) {
		f, l := parts(f)
		o := api.Op{Attrs: l}
		if f[0] == '+' {
			o.Kind, o.Text = insert, f[1:]
		} else {
			o.Kind = map[byte]int{'=': keep, '-': remove}[f[0]]
			o.N, _ = strconv.Atoi(f[1:])
		}
		c.Ops = append(c.Ops, o)
	}
	return c
}

// on is a changeset of these operations.
func on(from int, l ...api.Op) api.Change { return api.Change{From: from, Ops: l} }

// op is one operation.
func op(kind, n int, text string, l []api.Attr) api.Op {
	return api.Op{Kind: kind, N: n, Text: text, Attrs: l}
}

// long is a text of so many runes.
func long(n int) string { return strings.Repeat("é", n) }

// show tells anything, not all of it.
func show(x any) string {
	s := fmt.Sprintf("%+v", x)
	return s[:min(len(s), 1000)]
}

// sameDoc holds two documents against each other by their fields.
func sameDoc(a, b []api.Run) bool {
	return slices.EqualFunc(a, b, func(x, y api.Run) bool { return x.Text == y.Text && slices.Equal(x.Attrs, y.Attrs) })
}

// sameChange holds two changesets against each other by their fields.
func sameChange(a, b api.Change) bool {
	return a.From == b.From && slices.EqualFunc(a.Ops, b.Ops, func(x, y api.Op) bool {
		return x.Kind == y.Kind && x.N == y.N && x.Text == y.Text && slices.Equal(x.Attrs, y.Attrs)
	})
}

// none tells whether a changeset is the zero value.
func none(c api.Change) bool { return c.From == 0 && c.Ops == nil }

// step is a cell, or (with a kind) what is done to one.
type step struct {
	kind  int
	r     rune
	attrs string
}

// split are a document's cells.
func split(d []api.Run) []step {
	var l []step
	for _, x := range d {
		for _, r := range x.Text {
			l = append(l, step{r: r, attrs: spelled(x.Attrs)})
		}
	}
	return l
}

// joined is the document of cells.
func joined(l []step) []api.Run {
	var d []api.Run
	for i, x := range l {
		if i == 0 || l[i-1].attrs != x.attrs {
			d = append(d, api.Run{Attrs: row(x.attrs)})
		}
		d[len(d)-1].Text += string(x.r)
	}
	return d
}

// table are attributes by their keys.
func table(s string) map[string]string {
	m := map[string]string{}
	for _, a := range row(s) {
		m[a.Key] = a.Value
	}
	return m
}

// listed is the way back.
func listed(m map[string]string) string {
	var l []string
	for k, v := range m {
		l = append(l, k+"="+v)
	}
	slices.Sort(l)
	return strings.Join(l, ",")
}

// lay is what a change of attributes makes of attributes.
func lay(old string, c []api.Attr) string {
	m := table(old)
	for _, a := range c {
		m[a.Key] = a.Value
		if a.Value == "" {
			delete(m, a.Key)
		}
	}
	return listed(m)
}

// lift is the change that undoes one.
func lift(old string, c []api.Attr) string {
	m, back := table(old), map[string]string{}
	for _, a := range c {
		if was := m[a.Key]; was != a.Value {
			back[a.Key] = was
		}
	}
	return listed(back)
}

// carry is what a changeset makes of cells, and what is done to bring them back, cell by cell.
func carry(old []step, c api.Change) (now, back []step) {
	take := func(o api.Op) {
		x := old[0]
		old = old[1:]
		if o.Kind == remove {
			back = append(back, step{insert, x.r, x.attrs})
			return
		}
		now = append(now, step{0, x.r, lay(x.attrs, o.Attrs)})
		back = append(back, step{kind: keep, attrs: lift(x.attrs, o.Attrs)})
	}
	for _, o := range c.Ops {
		for range o.N {
			take(o)
		}
		for _, r := range o.Text {
			now = append(now, step{0, r, spelled(o.Attrs)})
			back = append(back, step{kind: remove})
		}
	}
	for len(old) > 0 {
		take(api.Op{Kind: keep})
	}
	return now, back
}

// fold is the normal changeset of what is done, cell by cell: between two keeps the inserts, then the deletes; at the end no keep that leaves all as it is.
func fold(from int, l []step) api.Change {
	c := api.Change{From: from}
	for gap, i := 0, 0; i <= len(l); i++ {
		if i == len(l) || l[i].kind == keep {
			slices.SortStableFunc(l[gap:i], func(x, y step) int { return x.kind - y.kind })
			gap = i + 1
		}
	}
	for len(l) > 0 && l[len(l)-1] == (step{kind: keep}) {
		l = l[:len(l)-1]
	}
	for i, s := range l {
		if i == 0 || l[i-1].kind != s.kind || l[i-1].attrs != s.attrs {
			c.Ops = append(c.Ops, api.Op{Kind: s.kind, Attrs: row(s.attrs)})
		}
		o := &c.Ops[len(c.Ops)-1]
		if s.kind == insert {
			o.Text += string(s.r)
		} else {
			o.N++
		}
	}
	return c
}

// between are the steps from some cells to others, as P5.4 tells them.
func between(x, y []step) []step {
	p, s := 0, 0
	for p < len(x) && p < len(y) && x[p] == y[p] {
		p++
	}
	for s < len(x)-p && s < len(y)-p && x[len(x)-1-s] == y[len(y)-1-s] {
		s++
	}
	l := slices.Repeat([]step{{kind: keep}}, p)
	for _, z := range y[p : len(y)-s] {
		l = append(l, step{insert, z.r, z.attrs})
	}
	l = append(l, slices.Repeat([]step{{kind: remove}}, len(x)-p-s)...)
	return append(l, slices.Repeat([]step{{kind: keep}}, s)...)
}

// all are the documents of up to so many cells, of a few kinds.
func all(most int) [][]api.Run {
	l := [][]step{nil}
	for from, n := 0, 0; n < most; n++ {
		last := l[from:]
		from = len(l)
		for _, d := range last {
			for _, x := range split(doc("a é a{b=1} a{b=2,i=1}")) {
				l = append(l, append(slices.Clone(d), x))
			}
		}
	}
	var out [][]api.Run
	for _, x := range l {
		out = append(out, joined(x))
	}
	return out
}

// every are the changesets of up to so many pieces that fit so many runes.
func every(from, most int) []api.Change {
	pieces := of(0, "=1 =2 =1{b=1} =1{b=} =1{b=2,i=1} +x +a{b=1} -1 -2").Ops
	var out []api.Change
	var grow func(l []api.Op, left int)
	grow = func(l []api.Op, left int) {
		out = append(out, on(from, slices.Clone(l)...))
		if len(l) == most {
			return
		}
		for _, o := range pieces {
			if o.N <= left {
				grow(append(l, o), left-o.N)
			}
		}
	}
	grow(nil, from)
	return out
}

// pairs is called with each small document and each small changeset that fits it, and with some that are longer.
func pairs(do func(d []api.Run, c api.Change)) {
	byLength := [][]api.Change{every(0, 3), every(1, 3), every(2, 3), every(3, 3), every(4, 4)}
	for _, d := range append(all(3), doc("a é{b=1} éa{b=2,i=1}"), doc("aaa{b=1} a"), doc("éaéa")) {
		for _, c := range byLength[len(split(d))] {
			do(d, c)
		}
	}
}

// striped is a document of so many runs of one rune each, by turns with attributes and without.
func striped(n int) []api.Run {
	var d []api.Run
	for i := range n {
		d = append(d, api.Run{Text: "a", Attrs: row([]string{"", "b=1"}[i%2])})
	}
	return d
}

// eight is as many attributes as may be.
const eight = "a=1,b=1,c=1,d=1,e=1,f=1,g=1,h=1"
