package anchor_test

import (
	"math"
	"slices"
	"testing"

	"blotter/anchor"
	"blotter/api"
	"blotter/change"
)

// ends are numbers at the ends of what an int may be, and about the limits.
var ends = []int{math.MinInt, math.MinInt + 1, -2, -1, 0, 1, 2, 3, api.MaxText - 1, api.MaxText, api.MaxText + 1, math.MaxInt - 1, math.MaxInt}

func TestP81Right(t *testing.T) {
	for i, x := range []struct {
		r    api.Range
		n    int
		want api.Errno
	}{
		{held(0, 1), 1, api.OK}, {held(0, 5), 5, api.OK}, {held(4, 5), 5, api.OK}, {held(1, 3), 5, api.OK}, {held(0, api.MaxText), api.MaxText, api.OK},
		// One rune at least, and none that is not there.
		{held(0, 0), 0, api.ErrRange}, {held(0, 0), 5, api.ErrRange}, {held(3, 3), 5, api.ErrRange}, {held(5, 5), 5, api.ErrRange}, {held(3, 2), 5, api.ErrRange}, {held(0, 6), 5, api.ErrRange}, {held(5, 6), 5, api.ErrRange}, {held(-1, 3), 5, api.ErrRange}, {held(-2, -1), 5, api.ErrRange}, {held(7, 8), 5, api.ErrRange}, {held(0, 1), 0, api.ErrRange}, {held(0, 1), -1, api.ErrRange}, {held(math.MinInt, math.MaxInt), api.MaxText, api.ErrRange}, {held(math.MaxInt, math.MinInt), api.MaxText, api.ErrRange},
		// One that is lost is at a place.
		{lost(0), 0, api.OK}, {lost(0), 5, api.OK}, {lost(3), 5, api.OK}, {lost(5), 5, api.OK}, {lost(6), 5, api.ErrRange}, {lost(-1), 5, api.ErrRange}, {lost(0), -1, api.ErrRange}, {lost(-1), -1, api.ErrRange}, {lost(math.MinInt), 5, api.ErrRange}, {lost(math.MaxInt), 5, api.ErrRange}, {api.Range{From: 1, To: 2, Lost: true}, 5, api.ErrRange}, {api.Range{From: 2, To: 1, Lost: true}, 5, api.ErrRange}, {api.Range{From: 0, To: 5, Lost: true}, 5, api.ErrRange},
	} {
		if e := anchor.Right(x.r, x.n); e != x.want {
			t.Error(i, x.r, x.n, e)
		}
	}
}

func TestP81OfEach(t *testing.T) {
	for _, n := range ends {
		for _, from := range ends {
			for _, to := range ends {
				for _, r := range []api.Range{held(from, to), {From: from, To: to, Lost: true}} {
					if e := anchor.Right(r, n); e != api.OK && e != api.ErrRange || e == api.OK != right(r, n) {
						t.Error(r, n, e)
					}
				}
			}
		}
	}
}

// example is the chapter's changeset on "abcdef".
func example() api.Change { return of(6, "=1 +xy -2 =1 +z") }

func TestP82Examples(t *testing.T) {
	for i, x := range []struct {
		c              api.Change
		at, start, end int
	}{
		{example(), 0, 0, 0}, {example(), 1, 3, 1}, {example(), 2, 3, 3}, {example(), 3, 3, 3}, {example(), 4, 5, 4}, {example(), 5, 6, 6}, {example(), 6, 7, 7},
		// Nothing, and behind the last operation.
		{on(0), 0, 0, 0}, {on(5), 0, 0, 0}, {on(5), 3, 3, 3}, {on(5), 5, 5, 5}, {of(5, "=5{b=1}"), 4, 4, 4}, {of(5, "=1 =4"), 5, 5, 5},
		// At both ends of the document.
		{of(0, "+ab"), 0, 2, 0}, {of(3, "+ab"), 0, 2, 0}, {of(3, "+ab"), 1, 3, 3}, {of(3, "=3 +ab"), 2, 2, 2}, {of(3, "=3 +ab"), 3, 5, 3}, {of(3, "-3"), 0, 0, 0}, {of(3, "-3"), 2, 0, 0}, {of(3, "-3"), 3, 0, 0}, {of(3, "+ab -3"), 0, 2, 0}, {of(3, "+ab -3"), 3, 2, 2},
		// Runes are counted, not bytes; inserts side by side are as one.
		{of(2, "=1 +é\U0001f600€"), 1, 4, 1}, {of(2, "=1 +é\U0001f600€"), 2, 5, 5}, {of(2, "=1 +a +b{b=1} +c{i=1}"), 1, 4, 1}, {of(4, "=1 +a =1 +b =1 +c"), 2, 4, 3}, {of(4, "=1 -2"), 1, 1, 1}, {of(4, "=1 -2"), 2, 1, 1}, {of(4, "=1 -2"), 3, 1, 1}, {of(4, "=1 -2"), 4, 2, 2},
		// The place is the normal form's: ahead of what is deleted beside it.
		{of(5, "=1 -2 +xy"), 1, 3, 1}, {of(5, "=1 -2 +xy"), 2, 3, 3}, {of(5, "=1 -2 +xy"), 3, 3, 3}, {of(5, "=1 -1 +x -1 +y"), 1, 3, 1}, {of(5, "=1 -1 +x -1 +y"), 2, 3, 3}, {of(5, "-2 +x =1{b=1} -1 +y"), 0, 1, 0}, {of(5, "-2 +x =1{b=1} -1 +y"), 2, 1, 1}, {of(5, "-2 +x =1{b=1} -1 +y"), 3, 3, 2}, {of(5, "-2 +x =1{b=1} -1 +y"), 4, 3, 3}, {of(3, "-3 +x"), 0, 1, 0},
	} {
		if n, e := anchor.Start(x.c, x.at); n != x.start || e != api.OK {
			t.Error(i, "Start", n, e)
		}
		if n, e := anchor.End(x.c, x.at); n != x.end || e != api.OK {
			t.Error(i, "End", n, e)
		}
	}
}

func TestP82OfEach(t *testing.T) {
	seen := 0
	each(func(c api.Change) {
		l := cells(c)
		for at := range c.From + 1 {
			seen++
			if n, e := anchor.Start(c, at); n != startOf(l, at) || e != api.OK {
				t.Fatal("Start", show(c), at, n, e)
			}
			if n, e := anchor.End(c, at); n != endOf(l, at) || e != api.OK {
				t.Fatal("End", show(c), at, n, e)
			}
		}
	})
	if seen < 50000 {
		t.Error(seen)
	}
}

func TestP82WrongPlaces(t *testing.T) {
	for _, c := range []api.Change{on(0), on(3), of(3, "+xyz"), of(3, "-3"), of(3, "=3 +x"), on(api.MaxText)} {
		for _, at := range append(ends, c.From-1, c.From, c.From+1) {
			want := api.ErrArg
			if at >= 0 && at <= c.From {
				want = api.OK
			}
			if n, e := anchor.Start(c, at); e != want || e != api.OK && n != 0 {
				t.Error("Start", show(c), at, n, e)
			}
			if n, e := anchor.End(c, at); e != want || e != api.OK && n != 0 {
				t.Error("End", show(c), at, n, e)
			}
		}
	}
}

// refusal is a changeset that may not be, and why.
type refusal struct {
	c    api.Change
	want api.Errno
}

// refusals are changesets that may not be.
func refusals() []refusal {
	return []refusal{
		{on(-1), api.ErrLength}, {on(math.MinInt), api.ErrLength}, {on(api.MaxText + 1), api.ErrLength}, {on(math.MaxInt), api.ErrLength}, {of(5, "=6"), api.ErrLength}, {of(5, "-3 -3"), api.ErrLength}, {on(5, op(keep, math.MaxInt, "")), api.ErrLength}, {on(5, op(remove, math.MaxInt, "")), api.ErrLength},
		{of(5, "=0"), api.ErrOps}, {of(5, "-0"), api.ErrOps}, {of(5, "+"), api.ErrOps}, {of(5, "-1{b=1}"), api.ErrOps}, {on(5, op(0, 1, "")), api.ErrOps}, {on(5, op(keep, -1, "")), api.ErrOps}, {on(5, op(remove, math.MinInt, "")), api.ErrOps}, {on(5, op(insert, 1, "a")), api.ErrOps}, {on(5, op(keep, 1, "a")), api.ErrOps}, {on(5, api.Op{}), api.ErrOps},
		{of(5, "+\xff"), api.ErrText}, {of(5, "+a\xed\xa0\x80"), api.ErrText}, {on(0, op(insert, 0, long(api.MaxText+1))), api.ErrText},
		{of(5, "+a{b=}"), api.ErrAttr}, {of(5, "=1{i=1,b=1}"), api.ErrAttr}, {of(5, "=1{a=1,b=1,c=1,d=1,e=1,f=1,g=1,h=1,i=1}"), api.ErrAttr},
		{of(api.MaxText, "+x"), api.ErrBig}, {striped(api.MaxText, api.MaxOps+1), api.ErrLong}, {striped(5, api.MaxOps+1), api.ErrLong},
	}
}

// TestP82WrongChangesets: the changeset's error is told ahead of the place's.
func TestP82WrongChangesets(t *testing.T) {
	for _, x := range refusals() {
		for _, at := range ends {
			if n, e := anchor.Start(x.c, at); n != 0 || e != x.want {
				t.Error("Start", show(x.c), at, n, e)
			}
			if n, e := anchor.End(x.c, at); n != 0 || e != x.want {
				t.Error("End", show(x.c), at, n, e)
			}
		}
	}
}

// full are changesets at the limits of runes and of operations.
func full() []api.Change {
	m := api.MaxText
	turns, cut, rows := on(m), on(m), on(0)
	for i := range api.MaxOps / 2 {
		turns.Ops = append(turns.Ops, op(remove, 1, ""), op(keep, 1, ""))
		cut.Ops = append(cut.Ops, op(remove, 3, ""), op(insert, 0, long(i%4+1)))
		rows.Ops = append(rows.Ops, op(insert, 0, "a"), api.Op{Kind: insert, Text: "éb", Attrs: row("b=1")})
	}
	return []api.Change{on(m), on(0, op(insert, 0, long(m))), on(m, op(remove, m, "")), on(m, op(insert, 0, long(m)), op(remove, m, "")), on(m, op(remove, m, ""), op(insert, 0, long(m))), of(m-1, "=19999 +x"), striped(m, api.MaxOps), turns, cut, rows}
}

func TestP82AtTheLimits(t *testing.T) {
	for i, c := range full() {
		l := cells(c)
		for _, at := range []int{0, 1, 2, 3, 1998, 1999, 2000, 2001, 2999, 3000, 3001, c.From - 1, c.From} {
			if at < 0 || at > c.From {
				continue
			}
			if n, e := anchor.Start(c, at); n != startOf(l, at) || e != api.OK {
				t.Error(i, "Start", at, n, e)
			}
			if n, e := anchor.End(c, at); n != endOf(l, at) || e != api.OK {
				t.Error(i, "End", at, n, e)
			}
		}
	}
}

func TestP83Examples(t *testing.T) {
	for i, x := range []struct {
		c       api.Change
		r, want api.Range
		e       api.Errno
	}{
		{example(), held(0, 2), held(0, 3), 0}, {example(), held(1, 3), lost(3), 0}, {example(), held(2, 4), held(3, 4), 0}, {example(), held(3, 6), held(3, 7), 0}, {example(), held(1, 2), lost(3), 0}, {example(), held(4, 4), api.Range{}, api.ErrRange}, {example(), held(5, 7), api.Range{}, api.ErrRange}, {example(), lost(4), lost(5), 0}, {example(), held(0, 6), held(0, 7), 0}, {example(), held(0, 4), held(0, 4), 0}, {example(), held(4, 6), held(5, 7), 0},
		// Inserts at its edges stay without, those within come in.
		{of(5, "=1 +x =2 +y"), held(1, 3), held(2, 4), 0}, {of(5, "=2 +xy"), held(1, 3), held(1, 5), 0}, {of(5, "+xy"), held(0, 5), held(2, 7), 0}, {of(5, "=5 +xy"), held(0, 5), held(0, 5), 0}, {of(5, "=5{b=1}"), held(1, 3), held(1, 3), 0}, {on(5), held(0, 5), held(0, 5), 0}, {on(5), held(4, 5), held(4, 5), 0},
		// Some of it is deleted, or all: what is inserted beside a delete stands ahead of it, so at an edge or without.
		{of(5, "=1 -1 =1 -2"), held(0, 5), held(0, 2), 0}, {of(5, "=2 +xy"), held(2, 3), held(4, 5), 0}, {of(5, "=2 +xy -1"), held(2, 3), lost(4), 0}, {of(5, "=2 +xy -1"), held(1, 3), held(1, 4), 0}, {of(5, "=1 -1"), held(1, 2), lost(1), 0}, {of(5, "-5"), held(0, 5), lost(0), 0}, {of(5, "-5"), held(4, 5), lost(0), 0}, {of(5, "+xy -5"), held(0, 5), lost(2), 0}, {of(5, "+xy -5"), held(2, 5), lost(2), 0}, {of(5, "-2 +x -3"), held(1, 4), lost(1), 0}, {of(5, "=1 -2 +x"), held(2, 3), lost(2), 0},
		// One that is lost goes behind what is inserted at its place, and stays lost.
		{on(5), lost(0), lost(0), 0}, {on(0), lost(0), lost(0), 0}, {of(0, "+xy"), lost(0), lost(2), 0}, {of(5, "=2 +xy"), lost(2), lost(4), 0}, {of(5, "=2 +xy"), lost(1), lost(1), 0}, {of(5, "=1 +xy -4"), lost(5), lost(3), 0}, {of(5, "=1 -2 +xy"), lost(2), lost(3), 0}, {of(5, "=5 +x"), lost(5), lost(6), 0},
	} {
		if r, e := anchor.Move(x.c, x.r); r != x.want || e != x.e {
			t.Error(i, r, e)
		}
	}
}

// TestP83OfEach: Move is held against its words, with the model's starts and ends.
func TestP83OfEach(t *testing.T) {
	each(func(c api.Change) {
		l := cells(c)
		some, none := ranges(c.From)
		for _, r := range slices.Concat(some, none) {
			want := lost(startOf(l, r.From))
			if to := endOf(l, r.To); !r.Lost && to != want.From {
				want = held(want.From, to)
			}
			if got, e := anchor.Move(c, r); got != want || e != api.OK {
				t.Fatal(show(c), r, got, e)
			}
		}
	})
}

func TestP83WrongRanges(t *testing.T) {
	for _, c := range []api.Change{on(0), on(3), of(3, "+xyz"), of(3, "-3"), of(3, "=3 +x"), on(api.MaxText)} {
		l := append(ends, c.From-1, c.From, c.From+1)
		for _, from := range l {
			for _, to := range l {
				for _, r := range []api.Range{held(from, to), {From: from, To: to, Lost: true}} {
					want := api.ErrRange
					if right(r, c.From) {
						want = api.OK
					}
					if got, e := anchor.Move(c, r); e != want || e != api.OK && got != (api.Range{}) {
						t.Error(show(c), r, got, e)
					}
				}
			}
		}
	}
}

// TestP83WrongChangesets: the changeset's error is told ahead of the range's.
func TestP83WrongChangesets(t *testing.T) {
	for _, x := range refusals() {
		for _, r := range []api.Range{held(0, 1), held(0, 5), held(3, 3), held(-1, 9), lost(0), lost(-1), {From: 1, To: 2, Lost: true}, held(math.MinInt, math.MaxInt)} {
			if got, e := anchor.Move(x.c, r); got != (api.Range{}) || e != x.want {
				t.Error(show(x.c), r, got, e)
			}
		}
	}
}

// markOp stands in the spare room of what is handed in.
var markOp = api.Op{Kind: 9, N: 9, Text: "spare"}

// spared is a changeset with spare room, full of marks.
func spared(c api.Change) api.Change {
	out := slices.Repeat([]api.Op{markOp}, len(c.Ops)+20)
	for i, o := range c.Ops {
		l := slices.Repeat([]api.Attr{{Key: "spare", Value: "room"}}, len(o.Attrs)+20)
		copy(l, o.Attrs)
		o.Attrs = l[:len(o.Attrs)]
		out[i] = o
	}
	return api.Change{From: c.From, Ops: out[:len(c.Ops)]}
}

// whole is a changeset with its spare room.
func whole(c api.Change) api.Change {
	l := slices.Clone(c.Ops[:cap(c.Ops)])
	for i := range l {
		l[i].Attrs = l[i].Attrs[:cap(l[i].Attrs)]
	}
	return api.Change{From: c.From, Ops: l}
}

// told is what all calls answer about a changeset, at a few places.
func told(c api.Change) []any {
	var l []any
	for _, at := range []int{-1, 0, 1, c.From - 1, c.From} {
		n, e := anchor.Start(c, at)
		m, f := anchor.End(c, at)
		r, g := anchor.Move(c, held(at, at+2))
		s, h := anchor.Move(c, lost(at))
		l = append(l, n, e, m, f, r, g, s, h)
	}
	return l
}

// TestP84NeitherChangedNorKept: what is handed in stays as it is, its spare room, too; and when it is written over, the next answers hang on what stands there then.
func TestP84NeitherChangedNorKept(t *testing.T) {
	try := func(c, other api.Change) {
		x, want := spared(c), told(c)
		was := whole(spared(c))
		if !slices.Equal(told(x), want) || !change.Same(whole(x), was) || !change.Same(x, c) {
			t.Fatal("changed", show(c))
		}
		l := x.Ops[:cap(x.Ops)]
		for i := range l {
			for j := range l[i].Attrs {
				l[i].Attrs[j] = api.Attr{Key: "written", Value: "over"}
			}
			l[i] = markOp
		}
		if n := copy(l, other.Ops); n < len(other.Ops) {
			t.Fatal("too few", n)
		}
		if !slices.Equal(told(api.Change{From: other.From, Ops: l[:len(other.Ops)]}), told(other)) || !slices.Equal(told(c), want) {
			t.Fatal("kept", show(c))
		}
	}
	i := 0
	each(func(c api.Change) {
		if i++; i%7 == 0 {
			try(c, example())
			try(example(), c)
		}
	})
	for _, x := range refusals() {
		try(x.c, example())
	}
	try(striped(api.MaxText, api.MaxOps), example())
}

// TestP85WhatItHolds: it is a range of the new document, and holds just what was kept of it and came within.
func TestP85WhatItHolds(t *testing.T) {
	each(func(c api.Change) {
		l := cells(c)
		n, _ := change.To(c)
		some, none := ranges(c.From)
		for _, r := range some {
			got, e := anchor.Move(c, r)
			in := inside(l, r)
			if e != api.OK || anchor.Right(got, n) != api.OK || !right(got, n) || got.Lost != (len(in) == 0) || !slices.Equal(l[got.From:got.To], in) {
				t.Fatal(show(c), r, got, e)
			}
		}
		for _, r := range none {
			if got, e := anchor.Move(c, r); e != api.OK || !got.Lost || !right(got, n) {
				t.Fatal(show(c), r, got, e)
			}
		}
	})
}

func TestP85AtTheLimits(t *testing.T) {
	for i, c := range full() {
		l := cells(c)
		for _, r := range []api.Range{held(0, c.From), held(0, 1), held(1, 3), held(2, 2000), held(1999, 3001), held(c.From-1, c.From), held(3, c.From-3)} {
			if !right(r, c.From) {
				continue
			}
			got, e := anchor.Move(c, r)
			if e != api.OK || !right(got, len(l)) || !slices.Equal(l[got.From:got.To], inside(l, r)) || got.Lost != (got.From == got.To) {
				t.Error(i, r, got, e)
			}
		}
	}
}

func TestP86TheyRise(t *testing.T) {
	each(func(c api.Change) {
		start, end := 0, 0
		for at := range c.From + 1 {
			n, e := anchor.Start(c, at)
			m, f := anchor.End(c, at)
			if n < start || m < end || m > n || e|f != api.OK {
				t.Fatal(show(c), at, n, m, e, f)
			}
			start, end = n, m
		}
	})
}

// TestP86Order: ranges that stood one behind the other, or within each other, still do.
func TestP86Order(t *testing.T) {
	for from := range 6 {
		some, _ := ranges(from)
		for _, c := range every(from, 3) {
			now := make([]api.Range, len(some))
			for i, r := range some {
				var e api.Errno
				if now[i], e = anchor.Move(c, r); e != api.OK {
					t.Fatal(show(c), r, e)
				}
			}
			for i, r := range some {
				for j, s := range some {
					if r.To <= s.From && now[i].To > now[j].From {
						t.Fatal("behind", show(c), r, s, now[i], now[j])
					}
					if s.From <= r.From && r.To <= s.To && (now[i].From < now[j].From || now[i].To > now[j].To) {
						t.Fatal("within", show(c), r, s, now[i], now[j])
					}
				}
			}
		}
	}
}
