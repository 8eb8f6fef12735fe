package gather_test

import (
	"slices"
	"testing"

	"blotter/api"
	"blotter/change"
	"blotter/gather"
)

// keep, insert and remove are operations.
func keep(n int, l ...api.Attr) api.Op { return api.Op{Kind: api.OpKeep, N: n, Attrs: l} }

func insert(s string, l ...api.Attr) api.Op {
	return api.Op{Kind: api.OpInsert, Text: s, Attrs: l}
}

func remove(n int) api.Op { return api.Op{Kind: api.OpDelete, N: n} }

// bold is an attribute.
var bold = api.Attr{Key: "b", Value: "1"}

// gathered is the changeset of operations that are added one by one.
func gathered(from int, l ...api.Op) (api.Change, api.Errno) {
	var to gather.Ops
	for _, o := range l {
		to.Add(o)
	}
	return to.Change(from)
}

func TestChange(t *testing.T) {
	for i, x := range [][2][]api.Op{
		{nil, nil}, {{keep(2)}, nil}, {{keep(1), keep(1), remove(1), insert("x"), remove(1), keep(1)}, {keep(2), insert("x"), remove(2)}}, {{keep(1, bold), keep(2, bold), keep(1)}, {keep(3, bold)}}, {{insert("a"), insert("b", bold), insert("c", bold)}, {insert("a"), insert("bc", bold)}},
		{{remove(1), keep(1), insert("x"), remove(2)}, {remove(1), keep(1), insert("x"), remove(2)}},
		// Operations of no runes stand for nothing.
		{{keep(0), insert("", bold), remove(0)}, nil}, {{keep(1), keep(0, bold), keep(1), remove(0), insert("x"), insert("", bold), insert("y")}, {keep(2), insert("xy")}}, {{remove(1), keep(0), insert("x")}, {insert("x"), remove(1)}},
	} {
		if c, e := gathered(7, x[0]...); !change.Same(c, api.Change{From: 7, Ops: x[1]}) || e != api.OK {
			t.Error(i, c, e)
		}
	}
}

func TestChangeAtTheLimit(t *testing.T) {
	turns := slices.Repeat([]api.Op{keep(1, bold), insert("x")}, api.MaxOps/2)
	if c, e := gathered(9000, turns...); len(c.Ops) != api.MaxOps || e != api.OK {
		t.Error(len(c.Ops), e)
	}
	if c, e := gathered(9000, append(turns, keep(1))...); len(c.Ops) != api.MaxOps || e != api.OK {
		t.Error(len(c.Ops), e)
	}
	if c, e := gathered(9000, append(turns, remove(1))...); c.From != 0 || c.Ops != nil || e != api.ErrLong {
		t.Error(len(c.Ops), e)
	}
	// A row may be longer than its normal form.
	many := slices.Repeat([]api.Op{remove(1), insert("x")}, 2*api.MaxOps)
	if c, e := gathered(9000, many...); len(c.Ops) != 2 || e != api.OK {
		t.Error(len(c.Ops), e)
	}
}

func TestCloneAttrs(t *testing.T) {
	l := []api.Attr{bold, {Key: "i"}}
	got := gather.CloneAttrs(l)
	if !slices.Equal(got, l) || gather.CloneAttrs(nil) != nil {
		t.Error(got)
	}
	got[0].Value = "2"
	if l[0] != bold {
		t.Error(l)
	}
}
