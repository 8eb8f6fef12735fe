package abreast_test

import (
	"slices"
	"strconv"
	"strings"
	"testing"

	"blotter/abreast"
	"blotter/api"
)

// bold is an attribute.
var bold = []api.Attr{{Key: "b", Value: "1"}}

// keep, insert and remove are operations.
func keep(n int, l ...api.Attr) api.Op { return api.Op{Kind: api.OpKeep, N: n, Attrs: l} }

func insert(s string, l ...api.Attr) api.Op {
	return api.Op{Kind: api.OpInsert, Text: s, Attrs: l}
}

func remove(n int) api.Op { return api.Op{Kind: api.OpDelete, N: n} }

// told writes an operation: =2, +x, -1, a * behind those with attributes; nothing of Kind 0.
func told(o api.Op) string {
	s := []string{"", "=", "+", "-"}[o.Kind] + o.Text
	if o.N > 0 {
		s += strconv.Itoa(o.N)
	}
	return s + strings.Repeat("*", len(o.Attrs))
}

// met are the pieces of two changesets.
func met(a, b []api.Op, alone func(x, y api.Op) abreast.Side) []string {
	var l []string
	for x, y := range abreast.Meet(api.Change{From: 9, Ops: a}, api.Change{From: 9, Ops: b}, alone) {
		l = append(l, told(x)+"|"+told(y))
	}
	return l
}

func TestMeet(t *testing.T) {
	never := func(x, y api.Op) abreast.Side { return abreast.Both }
	inserts := func(x, y api.Op) abreast.Side {
		switch {
		case x.Kind == api.OpInsert:
			return abreast.First
		case y.Kind == api.OpInsert:
			return abreast.Second
		}
		return abreast.Both
	}
	for i, x := range []struct {
		a, b  []api.Op
		alone func(x, y api.Op) abreast.Side
		want  []string
	}{
		{nil, nil, never, nil}, {[]api.Op{keep(3)}, nil, never, []string{"=3|=3"}}, {nil, []api.Op{remove(3)}, never, []string{"=3|-3"}}, {[]api.Op{keep(2), remove(3)}, []api.Op{keep(3), remove(1)}, never, []string{"=2|=2", "-1|=1", "-1|-1", "-1|=1"}},
		{[]api.Op{keep(2)}, []api.Op{keep(1, bold...), remove(4)}, never, []string{"=1|=1*", "=1|-1", "=3|-3"}}, {[]api.Op{insert("éa\U0001f600bc", bold...)}, []api.Op{keep(1), remove(2), keep(1, bold...)}, never, []string{"+é*|=1", "+a\U0001f600*|-2", "+b*|=1*", "+c*|=1"}},
		{[]api.Op{insert("ab"), keep(2)}, []api.Op{keep(1), insert("cd", bold...), remove(3)}, inserts, []string{"+ab|", "=1|=1", "|+cd*", "=1|-1", "=2|-2"}}, {[]api.Op{insert("a")}, []api.Op{insert("b")}, inserts, []string{"+a|", "|+b"}}, {nil, []api.Op{insert("b")}, inserts, []string{"|+b"}}, {[]api.Op{remove(1)}, []api.Op{keep(1), insert("b")}, inserts, []string{"-1|=1", "|+b"}},
	} {
		if got := met(x.a, x.b, x.alone); !slices.Equal(got, x.want) {
			t.Error(i, got)
		}
	}
}

// TestMeetIsLeft: whoever ranges may leave, and find all as it was.
func TestMeetIsLeft(t *testing.T) {
	a := api.Change{From: 9, Ops: []api.Op{insert("abc"), keep(5)}}
	all := abreast.Meet(a, api.Change{From: 12, Ops: []api.Op{keep(1), remove(1)}}, func(x, y api.Op) abreast.Side { return abreast.Both })
	for range 2 {
		for x, y := range all {
			if told(x)+told(y) != "+a=1" {
				t.Error(x, y)
			}
			break
		}
	}
	if told(a.Ops[0]) != "+abc" || told(a.Ops[1]) != "=5" {
		t.Error(a)
	}
}
