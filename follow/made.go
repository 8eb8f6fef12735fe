package follow

import (
	"unicode/utf8"

	"blotter/abreast"
	"blotter/api"
	"blotter/attrs"
	"blotter/gather"
)

// made is what one changeset says behind another one, as far as both were gone through.
type made struct {
	ops   gather.Ops
	first bool // is the one that follows
	size  int  // runes of the document
}

// alone tells which of the operations that come next is met alone: what either inserts the other never met.
func (to *made) alone(x, y api.Op) abreast.Side {
	switch {
	case y.Kind == api.OpInsert && (to.first || x.Kind != api.OpInsert):
		return abreast.Second
	case x.Kind == api.OpInsert:
		return abreast.First
	}
	return abreast.Both
}

// pick is what becomes of operations that met.
func (to *made) pick(x, y api.Op) func(x, y api.Op) {
	switch {
	case y.Kind == api.OpInsert:
		return to.insert
	case x.Kind == api.OpInsert:
		return to.pass
	case x.Kind == api.OpDelete:
		return to.nothing
	case y.Kind == api.OpDelete:
		return to.remove
	}
	return to.keep
}

// insert puts in what the second one does.
func (to *made) insert(_, y api.Op) {
	to.size += utf8.RuneCountInString(y.Text)
	to.ops.Add(y)
}

// pass leaves what the first one has put in.
func (to *made) pass(x, _ api.Op) {
	to.ops.Add(api.Op{Kind: api.OpKeep, N: utf8.RuneCountInString(x.Text)})
}

// nothing is left to do with what the first one has taken away.
func (to *made) nothing(_, _ api.Op) {}

// remove takes away what the second one does.
func (to *made) remove(_, y api.Op) {
	to.size -= y.N
	to.ops.Add(y)
}

// keep lays on what is left of the second one's attributes.
func (to *made) keep(x, y api.Op) {
	// Both are changes of attributes, for both changesets are right: there is no error.
	y.Attrs, _ = attrs.Follow(x.Attrs, y.Attrs, to.first)
	to.ops.Add(y)
}
