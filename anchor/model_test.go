package anchor_test

import (
	"fmt"
	"slices"
	"strconv"
	"strings"

	"blotter/api"
)

const (
	keep   = api.OpKeep
	insert = api.OpInsert
	remove = api.OpDelete
)

// row reads attributes as the document's examples write them, with a comma between two.
func row(s string) []api.Attr {
	var l []api.Attr
	for _, f := range strings.FieldsFunc(s, func(r rune) bool { return r == ',' }) {
		k, v, _ := strings.Cut(f, "=")
		l = append(l, api.Attr{Key: k, Value: v})
	}
	return l
}

// of reads a changeset: =2 keeps, +x inserts, -1 deletes; {b=1} behind that are attributes.
func of(from int, s string) api.Change {
	c := api.Change{From: from}
	for _, f := range strings.Fields(s) {
		f, l, _ := strings.Cut(strings.TrimSuffix(f, "}"), "{")
		o := api.Op{Attrs: row(l)}
		if f[0] == '+' {
			o.Kind, o.Text = insert, f[1:]
		} else {
			o.Kind = map[byte]int{'=': keep, '-': remove}[f[0]]
			o.N, _ = strconv.Atoi(f[1:])
		}
		c.Ops = append(c.Ops, o)
	}
	return c
}

// on is a changeset of these operations.
func on(from int, l ...api.Op) api.Change { return api.Change{From: from, Ops: l} }

// op is one operation.
func op(kind, n int, text string) api.Op { return api.Op{Kind: kind, N: n, Text: text} }

// held is a range that holds runes; lost is one that does not.
func held(from, to int) api.Range { return api.Range{From: from, To: to} }

func lost(at int) api.Range { return api.Range{From: at, To: at, Lost: true} }

// long is a text of so many runes.
func long(n int) string { return strings.Repeat("é", n) }

// show tells anything, not all of it.
func show(x any) string {
	s := fmt.Sprintf("%+v", x)
	return s[:min(len(s), 1000)]
}

// cell is a rune of the document behind a changeset: which one it was ahead of it, or, if it came in, at which place.
type cell struct {
	came bool
	at   int
}

// cells are those behind a changeset, which need not be normal: an insert's place is behind the kept rune ahead of it, for the deletes between the two stand behind it in the normal form.
func cells(c api.Change) []cell {
	var l []cell
	gone, kept := 0, 0
	for _, o := range append(slices.Clone(c.Ops), op(keep, c.From, "")) {
		for range o.N {
			if o.Kind == keep && gone < c.From {
				l = append(l, cell{at: gone})
				kept = gone + 1
			}
			gone++
		}
		for range []rune(o.Text) {
			l = append(l, cell{came: true, at: kept})
		}
	}
	return l
}

// count is how many cells are such.
func count(l []cell, such func(x cell) bool) int {
	n := 0
	for _, x := range l {
		if such(x) {
			n++
		}
	}
	return n
}

// startOf and endOf are what P8.2 says, counted cell by cell.
func startOf(l []cell, at int) int {
	return count(l, func(x cell) bool { return x.at < at || x.came && x.at == at })
}

func endOf(l []cell, at int) int {
	return count(l, func(x cell) bool { return x.at < at })
}

// right is what P8.1's words say of a range in a document of n runes.
func right(r api.Range, n int) bool {
	if r.Lost {
		return r.From == r.To && 0 <= r.From && r.From <= n
	}
	return 0 <= r.From && r.From < r.To && r.To <= n
}

// inside are the cells that P8.5 puts into what comes of a range.
func inside(l []cell, r api.Range) []cell {
	return slices.DeleteFunc(slices.Clone(l), func(x cell) bool {
		return x.at < r.From || x.at >= r.To || x.came && x.at == r.From
	})
}

// every are the changesets of up to so many pieces that fit so many runes, not in their normal forms alone.
func every(from, most int) []api.Change {
	pieces := of(0, "=1 =2 =1{b=1} =2{b=} +x +éa{b=1} +\U0001f600 -1 -2").Ops
	var out []api.Change
	var grow func(l []api.Op, left int)
	grow = func(l []api.Op, left int) {
		out = append(out, on(from, slices.Clone(l)...))
		if len(l) == most {
			return
		}
		for _, o := range pieces {
			if o.N <= left {
				grow(append(l, o), left-o.N)
			}
		}
	}
	grow(nil, from)
	return out
}

// each is called with many changesets.
func each(do func(c api.Change)) {
	for from := range 6 {
		for _, c := range every(from, 4) {
			do(c)
		}
	}
}

// ranges are all that there are in a document of n runes: those that hold something, and those that are lost.
func ranges(n int) (some, none []api.Range) {
	for from := range n + 1 {
		none = append(none, lost(from))
		for to := from + 1; to <= n; to++ {
			some = append(some, held(from, to))
		}
	}
	return some, none
}

// striped is a changeset of so many operations, all of which stand in its normal form.
func striped(from, n int) api.Change {
	c := on(from)
	for i := range n {
		c.Ops = append(c.Ops, api.Op{Kind: keep, N: 1, Attrs: row("b=" + strconv.Itoa(i%2+1))})
	}
	return c
}
