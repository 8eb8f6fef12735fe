package wal_test

import (
	"bytes"
	"slices"
	"testing"
	"unsafe"

	"blotter/block"
	"blotter/wal"
)

// mark fills the spare room of what is handed in.
const mark = 0xa5

// spared are the same bytes with spare room, full of marks.
func spared(b []byte) []byte {
	out := bytes.Repeat([]byte{mark}, len(b)+700)
	copy(out, b)
	return out[:len(b)]
}

// untouched tells whether spared bytes are as they were.
func untouched(b, was []byte) bool {
	return bytes.Equal(b, was) && bytes.Equal(b[len(b):cap(b)], bytes.Repeat([]byte{mark}, 700))
}

// writeOver writes over bytes and their spare room.
func writeOver(b []byte) {
	b = b[:cap(b)]
	for i := range b {
		b[i] = ^b[i]
	}
}

// span is a piece of memory.
type span struct{ from, to uintptr }

// spans are all memory of an answer, its spare room among it.
func spans(l [][]byte) []span {
	at := uintptr(unsafe.Pointer(unsafe.SliceData(l)))
	out := []span{{at, at + uintptr(cap(l))*unsafe.Sizeof([]byte{})}}
	for _, b := range l[:cap(l)] {
		at := uintptr(unsafe.Pointer(unsafe.SliceData(b)))
		out = append(out, span{at, at + uintptr(cap(b))})
	}
	return out
}

// meet tells whether two of some pieces of memory have a byte in common.
func meet(lists ...[]span) bool {
	l := slices.DeleteFunc(slices.Concat(lists...), func(x span) bool { return x.to == x.from })
	slices.SortFunc(l, func(x, y span) int { return int(x.from) - int(y.from) })
	for i := 1; i < len(l); i++ {
		if l[i].from < l[i-1].to {
			return true
		}
	}
	return false
}

// sundry are records of many lengths.
func sundry() [][]byte {
	var l [][]byte
	for i, size := range []int{0, 1, 8, 491, 492, 493, 0, 984, 985, 1500, 7, 4000} {
		l = append(l, noise(size, i))
	}
	return l
}

func TestP125HandedIn(t *testing.T) {
	h := block.New(60)
	l, _ := open(t, h, 0, 60, 3)
	for _, b := range sundry() {
		x := spared(b)
		appended(t, l, x)
		if !untouched(x, b) {
			t.Fatal(len(b), "what was handed in is changed")
		}
		writeOver(x)
	}
	if _, found := open(t, h, 0, 60, 3); !same(found, sundry()) || !same(sectorsOf(h, 0, 60-l.Room()), laid(3, sundry()...)) {
		t.Error("something is kept", told(found))
	}
	for _, size := range []int{60 * partSize, maxRecord + 1} {
		x := spared(noise(size, 1))
		if l.Append(x) == nil || !untouched(x, noise(size, 1)) {
			t.Error(size, "what was handed in is changed")
		}
	}
	h.Arm(0, true)
	x := spared(noise(20, 1))
	if l.Append(x) == nil || !untouched(x, noise(20, 1)) {
		t.Error("what was handed in is changed")
	}
}

func TestP125Answered(t *testing.T) {
	h := block.New(60)
	l, _ := open(t, h, 0, 60, 3)
	appended(t, l, sundry()...)
	was := sectorsOf(h, 0, 60)
	_, first := open(t, h, 0, 60, 3)
	log, second := open(t, h, 0, 60, 3)
	if meet(spans(first), spans(second)) {
		t.Fatal("memory is shared")
	}
	for _, b := range first {
		writeOver(b)
	}
	clear(first[:cap(first)])
	if !same(second, sundry()) || !same(sectorsOf(h, 0, 60), was) {
		t.Fatal("an answer shares memory")
	}
	for _, b := range second {
		writeOver(b)
	}
	appended(t, log, []byte("behind"))
	if _, third := open(t, h, 0, 60, 3); !same(third, append(sundry(), []byte("behind"))) {
		t.Error("something is kept", told(third))
	}
}

// TestP125Empty: a record of no bytes is one, whether it is nil or an empty list.
func TestP125Empty(t *testing.T) {
	h := block.New(4)
	l, _ := open(t, h, 0, 4, 1)
	appended(t, l, nil, []byte{}, spared(nil))
	if _, found := open(t, h, 0, 4, 1); !same(found, [][]byte{nil, nil, nil}) {
		t.Error(told(found))
	}
}

// TestP125WrittenBetween: a record is what stands there when it is appended.
func TestP125WrittenBetween(t *testing.T) {
	h := block.New(10)
	l, _ := open(t, h, 0, 10, 1)
	b := noise(1000, 1)
	appended(t, l, b)
	copy(b, noise(1000, 2))
	appended(t, l, b)
	if _, found := open(t, h, 0, 10, 1); !same(found, [][]byte{noise(1000, 1), noise(1000, 2)}) {
		t.Error(told(found))
	}
}

// TestTwoLogs: logs of a disk keep to their areas, and know nothing of each other.
func TestTwoLogs(t *testing.T) {
	h := block.New(30)
	logs := make([]*wal.Log, 3)
	want := make([][][]byte, 3)
	for i := range logs {
		logs[i], _ = open(t, h, 10*i, 10, 1+i%2)
	}
	for n := range 12 {
		i := n % 3
		b := noise(n*45, n)
		appended(t, logs[i], b)
		want[i] = append(want[i], b)
	}
	for i, l := range logs {
		if _, found := open(t, h, 10*i, 10, 1+i%2); !same(found, want[i]) || l.Count() != 4 {
			t.Error(i, told(found))
		}
	}
}
