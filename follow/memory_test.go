package follow_test

import (
	"slices"
	"strings"
	"testing"
	"unsafe"

	"blotter/api"
	"blotter/follow"
)

// span is a piece of memory.
type span struct{ from, to uintptr }

// listSpan is a list's memory, its spare room among it.
func listSpan[T any](l []T) span {
	at := uintptr(unsafe.Pointer(unsafe.SliceData(l)))
	var one T
	return span{at, at + uintptr(cap(l))*unsafe.Sizeof(one)}
}

// textSpan is a text's memory.
func textSpan(s string) span {
	at := uintptr(unsafe.Pointer(unsafe.StringData(s)))
	return span{at, at + uintptr(len(s))}
}

// spans are all memory of a changeset, piece by piece.
func spans(c api.Change) []span {
	l := []span{listSpan(c.Ops)}
	for _, o := range c.Ops {
		l = append(l, textSpan(o.Text), listSpan(o.Attrs))
		for _, a := range o.Attrs {
			l = append(l, textSpan(a.Key), textSpan(a.Value))
		}
	}
	return l
}

// meet tells whether two pieces of memory have a byte in common.
func meet(lists ...[]span) bool {
	l := slices.DeleteFunc(slices.Concat(lists...), func(x span) bool { return x.from == x.to })
	slices.SortFunc(l, func(x, y span) int { return int(x.from) - int(y.from) })
	for i := 1; i < len(l); i++ {
		if l[i].from < l[i-1].to {
			return true
		}
	}
	return false
}

// The marks that stand in the spare room of what is handed in.
var (
	markAttr = api.Attr{Key: "spare", Value: "room"}
	markOp   = api.Op{Kind: 9, N: 9, Text: "spare"}
)

// spared is a changeset with spare room, full of marks, and with texts of its own.
func spared(c api.Change) api.Change {
	out := slices.Repeat([]api.Op{markOp}, len(c.Ops)+20)
	for i, o := range c.Ops {
		l := slices.Repeat([]api.Attr{markAttr}, len(o.Attrs)+20)
		for j, a := range o.Attrs {
			l[j] = api.Attr{Key: strings.Clone(a.Key), Value: strings.Clone(a.Value)}
		}
		out[i] = api.Op{Kind: o.Kind, N: o.N, Text: strings.Clone(o.Text), Attrs: l[:len(o.Attrs)]}
	}
	return api.Change{From: c.From, Ops: out[:len(c.Ops)]}
}

// untouched tells whether a spared changeset is as it was.
func untouched(c, was api.Change) bool {
	for _, o := range c.Ops {
		if slices.ContainsFunc(o.Attrs[len(o.Attrs):cap(o.Attrs)], func(a api.Attr) bool { return a != markAttr }) {
			return false
		}
	}
	return sameChange(c, was) && !slices.ContainsFunc(c.Ops[len(c.Ops):cap(c.Ops)], func(o api.Op) bool { return o.Kind != 9 || o.N != 9 || o.Text != "spare" || o.Attrs != nil })
}

// writeOver writes over a changeset, its spare room, too.
func writeOver(c api.Change) {
	l := c.Ops[:cap(c.Ops)]
	for i := range l {
		a := l[i].Attrs[:cap(l[i].Attrs)]
		for j := range a {
			a[j] = api.Attr{Key: "written", Value: "over"}
		}
		l[i] = markOp
	}
}

// calls are the calls, each of two changesets.
func calls() map[string]func(a, b api.Change) api.Change {
	return map[string]func(a, b api.Change) api.Change{
		"Follow":       func(a, b api.Change) api.Change { c, _ := follow.Follow(a, b, false); return c },
		"Follow first": func(a, b api.Change) api.Change { c, _ := follow.Follow(a, b, true); return c },
		"Past":         func(a, b api.Change) api.Change { c, _ := follow.Past([]api.Change{a}, b); return c },
		"Past none":    func(_, b api.Change) api.Change { c, _ := follow.Past(nil, b); return c },
	}
}

// newMemory tells what is wrong with the memory of what a call answers.
func newMemory(a, b api.Change, call func(a, b api.Change) api.Change) string {
	x, y := spared(a), spared(b)
	out, again := call(x, y), call(x, y)
	if !untouched(x, a) || !untouched(y, b) {
		return "what was handed in is changed"
	}
	if meet(spans(x), spans(y), spans(out), spans(again)) {
		return "memory is shared"
	}
	want := spared(out)
	writeOver(out)
	if !untouched(x, a) || !untouched(y, b) || !sameChange(again, want) {
		return "an answer shares memory"
	}
	writeOver(x)
	writeOver(y)
	if !sameChange(again, want) || !sameChange(call(spared(a), spared(b)), want) {
		return "something is kept"
	}
	return ""
}

func TestP73NewMemory(t *testing.T) {
	i := 0
	try := func(a, b api.Change) {
		for name, call := range calls() {
			if s := newMemory(a, b, call); s != "" {
				t.Fatal(name, show(a), show(b), s)
			}
		}
	}
	pairs(func(a, b api.Change) {
		if i++; i%23 == 0 {
			try(a, b)
		}
	})
	try(striped(api.MaxText, api.MaxOps), of(api.MaxText, "-1"))
	try(of(api.MaxText, "-1"), striped(api.MaxText, api.MaxOps))
	try(of(api.MaxText, "-1 =1 +x"), striped(api.MaxText, api.MaxOps))
	for _, x := range refusals() {
		try(x.c, on(5))
		try(on(5), x.c)
		try(x.c, x.c)
	}
}

// TestP73EachOfItsOwn: attributes and texts of its own each, where several operations were handed in with the same, or both changesets are one.
func TestP73EachOfItsOwn(t *testing.T) {
	l := row("b=1")
	text := strings.Clone("aa")
	a := on(6, op(keep, 2, "", nil), op(insert, 0, text, l), op(keep, 1, "", nil), op(insert, 0, text, l), op(remove, 2, "", nil), op(keep, 1, "", nil))
	b := on(6, op(insert, 0, text, l), op(keep, 3, "", l), op(insert, 0, text, nil), op(remove, 1, "", nil), op(insert, 0, text, l), op(keep, 2, "", l))
	for name, call := range calls() {
		for _, x := range []api.Change{a, b, on(6)} {
			out := call(x, b)
			if meet(spans(out), []span{listSpan(a.Ops), listSpan(b.Ops), listSpan(l), textSpan(text)}) {
				t.Error(name, show(out))
			}
		}
	}
}

// TestP73TheRow: the list of many is neither changed nor kept, nor its spare room.
func TestP73TheRow(t *testing.T) {
	mark := on(9, markOp)
	l := append(make([]api.Change, 0, 9), of(3, "+x"), of(4, "=1 -1"), of(3, "=2{b=1} +y"))
	for i := range cap(l) - len(l) {
		l[:cap(l)][len(l)+i] = mark
	}
	was := slices.Clone(l[:cap(l)])
	b := of(3, "=1 +z =2{b=2,i=1}")
	want, e := follow.Past(l, b)
	if e != api.OK || !slices.EqualFunc(l[:cap(l)], was, sameChange) {
		t.Error(show(want), e, show(l[:cap(l)]))
	}
	want = spared(want)
	for i := range l {
		l[i] = mark
	}
	if again, e := follow.Past(was[:3], b); !sameChange(again, want) || e != api.OK {
		t.Error(show(again), e)
	}
}
