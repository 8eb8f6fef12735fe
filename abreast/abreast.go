// Package abreast goes through the operations of two changesets side by side, as the layers do that make one changeset of two (shared/doc/06-compose.md, 07-follow.md).
package abreast

import (
	"iter"
	"unicode/utf8"

	"blotter/api"
)

// Side is whose operation is met.
type Side int

// The sides.
const (
	Both Side = iota
	First
	Second
)

// op is an operation, and how many runes it keeps, inserts or deletes.
type op struct {
	api.Op
	size int
}

// Meet tells the operations of two changesets, as pieces that go through the same runes: of those that come next one alone, where alone says so, beside an api.Op of Kind 0; else as much as both have. Behind its last operation each keeps, until both are through. The changesets are right; what is told shares their memory.
func Meet(a, b api.Change, alone func(x, y api.Op) Side) iter.Seq2[api.Op, api.Op] {
	return func(yield func(x, y api.Op) bool) {
		both := rows[op]{row[op]{ops(a), rest()}, row[op]{ops(b), rest()}, func(x, y op) Side { return alone(x.Op, y.Op) }}
		for x, y := range both.met() {
			if !yield(x.Op, y.Op) {
				return
			}
		}
	}
}

// ops are a changeset's operations, with their sizes.
func ops(c api.Change) []op {
	var l []op
	for _, o := range c.Ops {
		l = append(l, op{o, o.N + utf8.RuneCountInString(o.Text)})
	}
	return l
}

// rest is what stands behind the last operation.
func rest() op {
	return op{api.Op{Kind: api.OpKeep, N: api.MaxInt}, api.MaxInt}
}

// length is how many runes the operation goes through or inserts.
func (o op) length() int { return o.size }

// cut makes two of one, so many runes in the first.
func (o op) cut(n int) (ahead, behind op) {
	ahead, behind = o, o
	ahead.size, behind.size = n, o.size-n
	if o.Kind == api.OpInsert {
		at := offset(o.Text, n)
		ahead.Text, behind.Text = o.Text[:at], o.Text[at:]
	} else {
		ahead.N, behind.N = n, o.N-n
	}
	return ahead, behind
}

// offset is where so many runes of a text end.
func offset(s string, n int) int {
	for at := range s {
		if n == 0 {
			return at
		}
		n--
	}
	return len(s)
}
