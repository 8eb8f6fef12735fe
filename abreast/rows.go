package abreast

import "iter"

// piece is what a row is made of: it has a size, and is cut in two.
type piece[P any] interface {
	length() int
	cut(n int) (ahead, behind P)
}

// row is pieces from the front; behind the last it goes on with as much of rest as is asked for.
type row[P piece[P]] struct {
	left []P
	rest P
}

// rows are two that are gone through side by side. The closure tells which of the two pieces that come next is met alone.
type rows[P piece[P]] struct {
	a, b  row[P]
	alone func(x, y P) Side
}

// met tells all pieces, until both rows are through: those of one size that stand side by side, or one alone, a zero value beside it.
func (r *rows[P]) met() iter.Seq2[P, P] {
	return func(yield func(x, y P) bool) {
		for len(r.a.left) > 0 || len(r.b.left) > 0 {
			if !yield(r.take()) {
				return
			}
		}
	}
}

// take is what comes next.
func (r *rows[P]) take() (x, y P) {
	x, y = r.a.next(), r.b.next()
	n := min(x.length(), y.length())
	switch r.alone(x, y) {
	case First:
		return r.a.take(x.length()), *new(P)
	case Second:
		return *new(P), r.b.take(y.length())
	}
	return r.a.take(n), r.b.take(n)
}

// next is the piece that comes next.
func (r *row[P]) next() P {
	if len(r.left) == 0 {
		return r.rest
	}
	return r.left[0]
}

// take is so much of that piece; what is left of it comes next. The row's list is written over: it is nobody else's.
func (r *row[P]) take(n int) P {
	x, behind := r.next().cut(n)
	if len(r.left) == 0 {
		return x
	}
	if behind.length() == 0 {
		r.left = r.left[1:]
	} else {
		r.left[0] = behind
	}
	return x
}
