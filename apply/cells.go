package apply

import (
	"iter"
	"slices"
	"strings"
	"unicode/utf8"

	"blotter/api"
	"blotter/attrs"
	"blotter/gather"
)

// cell is one rune of a document, with its run's attributes.
type cell struct {
	text  string
	attrs []api.Attr
}

// walk goes through a document from the front: the runs that are left, and the offset in the first of them.
type walk struct {
	left []api.Run
	at   int
}

// document is runs that are put together cell by cell.
type document struct {
	runs []api.Run
	text strings.Builder // of the last one
}

// cells tells all cells of a document.
func cells(d []api.Run) iter.Seq[cell] {
	return func(yield func(x cell) bool) {
		w := walk{left: d}
		for x := range w.next(api.MaxText) {
			if !yield(x) {
				return
			}
		}
	}
}

// next tells the cells that come next: so many, or all, if there are less.
func (w *walk) next(many int) iter.Seq[cell] {
	return func(yield func(x cell) bool) {
		for n := many; n > 0 && len(w.left) > 0; n-- {
			if !yield(w.take()) {
				return
			}
		}
	}
}

// take is the next cell.
func (w *walk) take() cell {
	r := w.left[0]
	_, size := utf8.DecodeRuneInString(r.Text[w.at:])
	x := cell{r.Text[w.at : w.at+size], r.Attrs}
	w.at += size
	if w.at == len(r.Text) {
		w.left, w.at = w.left[1:], 0
	}
	return x
}

// met tells each cell that operations keep, insert or delete, and the operation, in their order. Behind the last one all that is left is kept.
func met(d []api.Run, ops []api.Op) iter.Seq2[api.Op, cell] {
	rest := api.Op{Kind: api.OpKeep, N: api.MaxText}
	return func(yield func(o api.Op, x cell) bool) {
		old := walk{left: d}
		for _, o := range slices.Concat(ops, []api.Op{rest}) {
			whose := old.next(o.N)
			if o.Kind == api.OpInsert {
				whose = cells([]api.Run{{Text: o.Text, Attrs: o.Attrs}})
			}
			for x := range whose {
				if !yield(o, x) {
					return
				}
			}
		}
	}
}

// remembered is a way to make attributes of two rows, gone anew only where they are others than the last time: the cells of a run come one by one, and all ask the same. (Of nothing and nothing comes nothing.)
func remembered(way func(l, c []api.Attr) ([]api.Attr, api.Errno)) func(l, c []api.Attr) ([]api.Attr, api.Errno) {
	var lastL, lastC, answer []api.Attr
	var e api.Errno
	return func(l, c []api.Attr) ([]api.Attr, api.Errno) {
		if !attrs.Same(l, lastL) || !attrs.Same(c, lastC) {
			lastL, lastC = l, c
			answer, e = way(l, c)
		}
		return answer, e
	}
}

// put puts a text behind the others, into the last run, if that has the same attributes.
func (d *document) put(text string, l []api.Attr) {
	if last := len(d.runs) - 1; last < 0 || !attrs.Same(d.runs[last].Attrs, l) {
		d.finish()
		d.runs = append(d.runs, api.Run{Attrs: gather.CloneAttrs(l)})
	}
	d.text.WriteString(text)
}

// finish gives the last run its text.
func (d *document) finish() {
	if last := len(d.runs) - 1; last >= 0 {
		d.runs[last].Text = d.text.String()
		d.text.Reset()
	}
}

// end are all runs.
func (d *document) end() []api.Run {
	d.finish()
	return d.runs
}

// same tells whether two cells are the same.
func same(x, y cell) bool {
	return x.text == y.text && attrs.Same(x.attrs, y.attrs)
}
