package apply_test

import (
	"slices"
	"strings"
	"testing"
	"unsafe"

	"blotter/api"
	"blotter/apply"
)

// span is a piece of memory.
type span struct{ from, to uintptr }

// listSpan is a list's memory, its spare room among it.
func listSpan[T any](l []T) span {
	at := uintptr(unsafe.Pointer(unsafe.SliceData(l)))
	var one T
	return span{at, at + uintptr(cap(l))*unsafe.Sizeof(one)}
}

// textSpan is a text's memory.
func textSpan(s string) span {
	at := uintptr(unsafe.Pointer(unsafe.StringData(s)))
	return span{at, at + uintptr(len(s))}
}

// attrSpans are the memory of attributes.
func attrSpans(l []api.Attr) []span {
	out := []span{listSpan(l)}
	for _, a := range l {
		out = append(out, textSpan(a.Key), textSpan(a.Value))
	}
	return out
}

// docSpans are all memory of a document, piece by piece.
func docSpans(d []api.Run) []span {
	l := []span{listSpan(d)}
	for _, x := range d {
		l = append(append(l, textSpan(x.Text)), attrSpans(x.Attrs)...)
	}
	return l
}

// changeSpans are all memory of a changeset.
func changeSpans(c api.Change) []span {
	l := []span{listSpan(c.Ops)}
	for _, o := range c.Ops {
		l = append(append(l, textSpan(o.Text)), attrSpans(o.Attrs)...)
	}
	return l
}

// meet tells whether two pieces of memory have a byte in common.
func meet(lists ...[]span) bool {
	l := slices.DeleteFunc(slices.Concat(lists...), func(x span) bool { return x.from == x.to })
	slices.SortFunc(l, func(x, y span) int { return int(x.from) - int(y.from) })
	for i := 1; i < len(l); i++ {
		if l[i].from < l[i-1].to {
			return true
		}
	}
	return false
}

// The marks that stand in the spare room of what is handed in.
var (
	markAttr = api.Attr{Key: "spare", Value: "room"}
	markOp   = api.Op{Kind: 9, N: 9, Text: "spare"}
	markRun  = api.Run{Text: "spare"}
)

// sparedAttrs are attributes with spare room, full of marks, and with texts of their own.
func sparedAttrs(l []api.Attr) []api.Attr {
	out := slices.Repeat([]api.Attr{markAttr}, len(l)+20)
	for i, a := range l {
		out[i] = api.Attr{Key: strings.Clone(a.Key), Value: strings.Clone(a.Value)}
	}
	return out[:len(l)]
}

// sparedDoc is a document likewise.
func sparedDoc(d []api.Run) []api.Run {
	out := slices.Repeat([]api.Run{markRun}, len(d)+20)
	for i, x := range d {
		out[i] = api.Run{Text: strings.Clone(x.Text), Attrs: sparedAttrs(x.Attrs)}
	}
	return out[:len(d)]
}

// sparedChange is a changeset likewise.
func sparedChange(c api.Change) api.Change {
	out := slices.Repeat([]api.Op{markOp}, len(c.Ops)+20)
	for i, o := range c.Ops {
		out[i] = api.Op{Kind: o.Kind, N: o.N, Text: strings.Clone(o.Text), Attrs: sparedAttrs(o.Attrs)}
	}
	return api.Change{From: c.From, Ops: out[:len(c.Ops)]}
}

// marked tells whether the spare room of attributes is full of marks still.
func marked(l []api.Attr) bool {
	return !slices.ContainsFunc(l[len(l):cap(l)], func(a api.Attr) bool { return a != markAttr })
}

// untouchedDoc tells whether a spared document is as it was.
func untouchedDoc(d, was []api.Run) bool {
	for _, x := range d {
		if !marked(x.Attrs) {
			return false
		}
	}
	return sameDoc(d, was) && !slices.ContainsFunc(d[len(d):cap(d)], func(x api.Run) bool { return x.Text != markRun.Text || x.Attrs != nil })
}

// untouchedChange tells the same of a changeset.
func untouchedChange(c, was api.Change) bool {
	for _, o := range c.Ops {
		if !marked(o.Attrs) {
			return false
		}
	}
	return sameChange(c, was) && !slices.ContainsFunc(c.Ops[len(c.Ops):cap(c.Ops)], func(o api.Op) bool { return o.Kind != 9 || o.N != 9 || o.Text != "spare" || o.Attrs != nil })
}

// writeAttrs writes over attributes, their spare room, too.
func writeAttrs(l []api.Attr) {
	l = l[:cap(l)]
	for i := range l {
		l[i] = api.Attr{Key: "written", Value: "over"}
	}
}

// writeDoc does the same with a document.
func writeDoc(d []api.Run) {
	d = d[:cap(d)]
	for i := range d {
		writeAttrs(d[i].Attrs)
		d[i] = markRun
	}
}

// writeChange does the same with a changeset.
func writeChange(c api.Change) {
	l := c.Ops[:cap(c.Ops)]
	for i := range l {
		writeAttrs(l[i].Attrs)
		l[i] = markOp
	}
}

// answer is what a call answers: a document, a changeset or a text.
type answer struct {
	d []api.Run
	c api.Change
	s string
}

// spans are all memory of an answer.
func (x answer) spans() []span {
	return slices.Concat(docSpans(x.d), changeSpans(x.c), []span{textSpan(x.s)})
}

// same holds two answers against each other.
func (x answer) same(y answer) bool {
	return sameDoc(x.d, y.d) && sameChange(x.c, y.c) && x.s == y.s
}

// calls are the calls that answer more than numbers, each of two documents and a changeset on the first.
func calls() map[string]func(a, b []api.Run, c api.Change) answer {
	type call = func(a, b []api.Run, c api.Change) answer
	slice := func(from, behind int) call {
		return func(a, b []api.Run, c api.Change) answer {
			n, _ := apply.Length(a)
			d, _ := apply.Slice(a, from, n-behind)
			return answer{d: d}
		}
	}
	return map[string]call{
		"Plain":          func(a, b []api.Run, c api.Change) (x answer) { x.s, _ = apply.Plain(a); return },
		"Apply":          func(a, b []api.Run, c api.Change) (x answer) { x.d, _ = apply.Apply(a, c); return },
		"Inverse":        func(a, b []api.Run, c api.Change) (x answer) { x.c, _ = apply.Inverse(a, c); return },
		"Between":        func(a, b []api.Run, c api.Change) (x answer) { x.c, _ = apply.Between(a, b); return },
		"Slice":          slice(0, 0),
		"Slice, a piece": slice(1, 1),
		"As":             func(a, b []api.Run, c api.Change) (x answer) { x.c, _ = apply.As(a); return },
		"Make": func(a, b []api.Run, c api.Change) (x answer) {
			if len(a) > 0 {
				x.d, _ = apply.Make(a[0].Text)
			}
			return
		},
	}
}

// newMemory tells what is wrong with the memory of what a call answers.
func newMemory(a, b []api.Run, c api.Change, call func(a, b []api.Run, c api.Change) answer) string {
	x, y, z := sparedDoc(a), sparedDoc(b), sparedChange(c)
	untouched := func() bool { return untouchedDoc(x, a) && untouchedDoc(y, b) && untouchedChange(z, c) }
	out, again := call(x, y, z), call(x, y, z)
	if !untouched() {
		return "what was handed in is changed"
	}
	if meet(docSpans(x), docSpans(y), changeSpans(z), out.spans(), again.spans()) {
		return "memory is shared"
	}
	want := answer{sparedDoc(out.d), sparedChange(out.c), strings.Clone(out.s)}
	writeDoc(out.d)
	writeChange(out.c)
	if !untouched() || !again.same(want) {
		return "an answer shares memory"
	}
	writeDoc(x)
	writeDoc(y)
	writeChange(z)
	if !again.same(want) || !call(sparedDoc(a), sparedDoc(b), sparedChange(c)).same(want) {
		return "something is kept"
	}
	return ""
}

func TestP56NewMemory(t *testing.T) {
	i := 0
	docs := all(3)
	try := func(a []api.Run, c api.Change) {
		b := docs[i%len(docs)]
		for name, call := range calls() {
			if s := newMemory(a, b, c, call); s != "" {
				t.Fatal(name, show(a), show(b), show(c), s)
			}
		}
	}
	pairs(func(d []api.Run, c api.Change) {
		if i++; i%17 == 0 {
			try(d, c)
		}
	})
	for _, d := range rightDocs() {
		n := len(split(d))
		try(d, on(n))
		try(d, on(n, slices.Repeat([]api.Op{op(insert, 0, "x", row("b=1")), op(insert, 0, "y", nil)}, 5)...))
	}
	for _, d := range wrongDocs() {
		try(d, on(1, op(keep, 1, "", nil)))
	}
	for _, x := range slices.Concat(wrongChanges(), tooMuch()) {
		try(x.d, x.c)
	}
}

// TestP56EachOfItsOwn: attributes and texts of its own each, where several runs or operations were handed in with the same.
func TestP56EachOfItsOwn(t *testing.T) {
	l := row("b=1")
	text := strings.Clone("aa")
	d := []api.Run{{Text: text, Attrs: l}, {Text: text}, {Text: text, Attrs: l}}
	c := on(6, op(keep, 1, "", row("i=1")), op(insert, 0, text, nil), op(remove, 1, "", nil), op(keep, 2, "", l), op(insert, 0, text, l))
	other := []api.Run{{Text: text}, {Text: text, Attrs: l}, {Text: text}}
	for name, call := range calls() {
		out := call(d, other, c)
		if meet(out.spans(), attrSpans(l), []span{textSpan(text)}) {
			t.Error(name, show(out))
		}
	}
}

func TestP56ChangesNothing(t *testing.T) {
	docs := slices.Concat(sundry(), rightDocs(), wrongDocs())
	for i, a := range docs {
		b := docs[len(docs)-1-i]
		x, y := sparedDoc(a), sparedDoc(b)
		apply.Right(x)
		apply.Plain(x)
		apply.Length(x)
		apply.Between(x, y)
		apply.Slice(x, 0, 1)
		apply.As(x)
		apply.Same(x, y)
		for _, c := range []api.Change{on(1), of(1, "=1{b=1} +x"), of(4, "=1 +x -1 =1{i=1}"), of(1, "=0"), on(-1)} {
			z := sparedChange(c)
			apply.Apply(x, z)
			apply.Inverse(x, z)
			if !untouchedChange(z, c) {
				t.Error(show(a), show(c))
			}
		}
		if !untouchedDoc(x, a) || !untouchedDoc(y, b) {
			t.Error(show(a), show(b))
		}
	}
}
