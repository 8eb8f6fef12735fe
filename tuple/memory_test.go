package tuple_test

import (
	"slices"
	"strings"
	"testing"
	"unsafe"

	"blotter/api"
	"blotter/tuple"
)

// span is a piece of memory.
type span struct{ from, to uintptr }

// textSpan is a text's memory.
func textSpan(s string) span {
	at := uintptr(unsafe.Pointer(unsafe.StringData(s)))
	return span{at, at + uintptr(len(s))}
}

// spans are all memory of a row, its spare room among it.
func spans(l []api.Part) []span {
	at := uintptr(unsafe.Pointer(unsafe.SliceData(l)))
	out := []span{{at, at + uintptr(cap(l))*unsafe.Sizeof(api.Part{})}}
	for _, p := range l {
		out = append(out, textSpan(p.Text))
	}
	return out
}

// meet tells whether two pieces of memory have a byte in common. A text of one byte may stand where all such texts do, which nobody can write to.
func meet(lists ...[]span) bool {
	l := slices.DeleteFunc(slices.Concat(lists...), func(x span) bool { return x.to-x.from <= 1 })
	slices.SortFunc(l, func(x, y span) int { return int(x.from) - int(y.from) })
	for i := 1; i < len(l); i++ {
		if l[i].from < l[i-1].to {
			return true
		}
	}
	return false
}

// mark stands in the spare room of what is handed in.
var mark = api.Part{Kind: 9, Int: 9, Text: "spare"}

// spared is a row with spare room, full of marks, and with texts of its own.
func spared(l []api.Part) []api.Part {
	out := slices.Repeat([]api.Part{mark}, len(l)+9)
	for i, p := range l {
		out[i] = api.Part{Kind: p.Kind, Int: p.Int, Text: strings.Clone(p.Text)}
	}
	return out[:len(l)]
}

// whole are a row and its spare room, as they are now.
func whole(l []api.Part) []api.Part { return slices.Clone(l[:cap(l)]) }

// writeOver makes all parts others, in the spare room, too.
func writeOver(l []api.Part) {
	for i := range l[:cap(l)] {
		l[:cap(l)][i] = api.Part{Kind: 8, Text: "written over"}
	}
}

func TestP114HandedIn(t *testing.T) {
	all := rows(2, slices.Concat(sundry(), oddParts()))
	for i, l := range all {
		a, b := spared(l), spared(all[len(all)-1-i])
		was, wasB := whole(a), whole(b)
		n := tuple.Order(a, b)
		key, e := tuple.Key(a)
		if !slices.Equal(whole(a), was) || !slices.Equal(whole(b), wasB) {
			t.Fatal(show(l), "what was handed in is changed")
		}
		if meet(spans(a), spans(b), []span{textSpan(key)}) {
			t.Fatal(show(l), "a key shares memory")
		}
		kept := strings.Clone(key)
		writeOver(a)
		writeOver(b)
		again, f := tuple.Key(spared(l))
		if key != kept || again != kept || e != f || tuple.Order(spared(l), spared(all[len(all)-1-i])) != n {
			t.Fatal(show(l), "something is kept")
		}
	}
}

func TestP114Answered(t *testing.T) {
	for _, l := range rows(2, sundry())[1:] {
		key, _ := keyOf(l)
		first, _ := tuple.Read(key)
		second, _ := tuple.Read(key)
		room := whole(second)
		if meet(spans(first), spans(second), []span{textSpan(key)}) {
			t.Fatal(show(l), "memory is shared")
		}
		writeOver(first)
		third, _ := tuple.Read(key)
		if !slices.Equal(whole(second), room) || !slices.Equal(third, l) {
			t.Fatal(show(l), "two answers share memory")
		}
	}
	for _, s := range texts(4, "\x00a\xff") {
		begin := strings.Clone(s)
		first, second := tuple.After(begin), tuple.After(begin)
		if meet([]span{textSpan(begin)}, []span{textSpan(first)}, []span{textSpan(second)}) {
			t.Fatal(show(s), "memory is shared")
		}
	}
}

// TestP114Empty: nil and an empty row are the same.
func TestP114Empty(t *testing.T) {
	if tuple.Order(nil, spared(nil)) != 0 || tuple.Order(spared(nil), row(1)) != -1 {
		t.Error("Order")
	}
	if key, e := tuple.Key(spared(nil)); key != "" || e != api.ErrTuple {
		t.Error(key, e)
	}
}
