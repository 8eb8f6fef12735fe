// Package gather puts operations one behind another as the normal form of a changeset has them (shared/doc/03-change.md). The layers that make changesets share it: a row of operations may be longer than MaxOps until it is in that form.
package gather

import (
	"strings"

	"blotter/api"
	"blotter/attrs"
)

// row is operations, one behind another.
type row struct {
	ops  []api.Op
	text strings.Builder // of the last one: a sum of texts at each put would copy the same bytes again and again
}

// Ops is a row in its normal form; the zero value has none.
type Ops struct {
	row
	gone int // runes deleted since the last keep: a delete stands behind all that is inserted there
}

// Add puts an operation where the normal form has it. One of no runes adds nothing.
func (to *Ops) Add(o api.Op) {
	if o.N == 0 && o.Text == "" {
		return
	}
	switch o.Kind {
	case api.OpDelete:
		to.gone += o.N
	case api.OpKeep:
		to.deleted()
		to.put(o)
	default:
		to.put(o)
	}
}

// Change is the changeset of all that was added, on so many runes: the last call on it.
func (to *Ops) Change(from int) (api.Change, api.Errno) {
	l := to.end()
	if len(l) > api.MaxOps {
		return api.Change{}, api.ErrLong
	}
	return api.Change{From: from, Ops: l}, api.OK
}

// CloneAttrs are the same in other memory.
func CloneAttrs(l []api.Attr) []api.Attr {
	var out []api.Attr
	for _, x := range l {
		out = append(out, api.Attr{Key: strings.Clone(x.Key), Value: strings.Clone(x.Value)})
	}
	return out
}

// put puts an operation behind the others, as one with the last, if they do the same.
func (r *row) put(o api.Op) {
	if last := len(r.ops) - 1; last >= 0 && alike(r.ops[last], o) {
		r.ops[last].N += o.N
	} else {
		r.finish()
		r.ops = append(r.ops, api.Op{Kind: o.Kind, N: o.N, Attrs: CloneAttrs(o.Attrs)})
	}
	r.text.WriteString(o.Text)
}

// finish gives the last operation its text.
func (r *row) finish() {
	if last := len(r.ops) - 1; last >= 0 {
		r.ops[last].Text = r.text.String()
		r.text.Reset()
	}
}

// deleted puts what was deleted since the last keep.
func (to *Ops) deleted() {
	if to.gone > 0 {
		to.put(api.Op{Kind: api.OpDelete, N: to.gone})
		to.gone = 0
	}
}

// end is the whole row: behind its last operation all is kept without being told.
func (to *Ops) end() []api.Op {
	to.deleted()
	to.finish()
	if last := len(to.ops) - 1; last >= 0 && to.ops[last].Kind == api.OpKeep && len(to.ops[last].Attrs) == 0 {
		return to.ops[:last]
	}
	return to.ops
}

// alike tells whether two operations do the same, to however many runes.
func alike(a, b api.Op) bool {
	return a.Kind == b.Kind && attrs.Same(a.Attrs, b.Attrs)
}
