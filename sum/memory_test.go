package sum_test

import (
	"bytes"
	"slices"
	"testing"
	"unsafe"

	"blotter/sum"
)

// mark fills the spare room of what is handed in.
const mark = 0xa5

// spared are the same bytes with spare room, full of marks.
func spared(b []byte) []byte {
	out := bytes.Repeat([]byte{mark}, len(b)+40)
	copy(out, b)
	return out[:len(b)]
}

// untouched tells whether spared bytes are as they were.
func untouched(b, was []byte) bool {
	return bytes.Equal(b, was) && bytes.Equal(b[len(b):cap(b)], bytes.Repeat([]byte{mark}, 40))
}

// writeOver writes over bytes and their spare room.
func writeOver(b []byte) {
	b = b[:cap(b)]
	for i := range b {
		b[i] = ^b[i]
	}
}

// meet tells whether two rows share memory, spare room too.
func meet(a, b []byte) bool {
	x, y := uintptr(unsafe.Pointer(unsafe.SliceData(a))), uintptr(unsafe.Pointer(unsafe.SliceData(b)))
	return x < y+uintptr(cap(b)) && y < x+uintptr(cap(a))
}

// calls are the calls that are handed bytes; what they answer, as bytes.
func calls() map[string]func(b []byte) []byte {
	return map[string]func(b []byte) []byte{
		"Sum":  func(b []byte) []byte { n, _ := sum.Number(sum.Sum(b), 4); return n },
		"Read": func(b []byte) []byte { n, _ := sum.Read(b, 0, 3); m, _ := sum.Number(n, 8); return m },
		"Seal": sum.Seal,
		"Open": func(b []byte) []byte { x, _ := sum.Open(b); return x },
	}
}

func TestP94NewMemory(t *testing.T) {
	rows := [][]byte{nil, {0}, {0, 0, 0}, {0, 0, 0, 0}, {97, 67, 190, 183, 232}, {97, 67, 190, 183, 231}}
	for n := range 140 {
		rows = append(rows, noise(n, n), sum.Seal(noise(n, n)))
	}
	for name, call := range calls() {
		for _, row := range rows {
			b := spared(row)
			out, again := call(b), call(b)
			want := slices.Clone(out)
			if !untouched(b, row) || !bytes.Equal(again, want) {
				t.Fatal(name, show(row), "what was handed in is changed")
			}
			if meet(b, out) || meet(b, again) || meet(out, again) {
				t.Fatal(name, show(row), "memory is shared")
			}
			writeOver(out)
			if !untouched(b, row) || !bytes.Equal(again, want) {
				t.Fatal(name, show(row), "an answer shares memory")
			}
			writeOver(b)
			if !bytes.Equal(again, want) || !bytes.Equal(call(spared(row)), want) {
				t.Fatal(name, show(row), "something is kept")
			}
		}
	}
}

// TestP94WrittenOver: what a call answers hangs on the bytes that stand there when it is called.
func TestP94WrittenOver(t *testing.T) {
	b := spared(sum.Seal(noise(50, 1)))
	first, ok := sum.Open(b)
	copy(b, sum.Seal(noise(50, 2)))
	second, fine := sum.Open(b)
	if !ok || !fine || !bytes.Equal(first, noise(50, 1)) || !bytes.Equal(second, noise(50, 2)) {
		t.Error(first, ok, second, fine)
	}
	if n := sum.Sum(b[:50]); n != sumOf(noise(50, 2)) {
		t.Error(n)
	}
}

func TestP94Numbers(t *testing.T) {
	for size := 1; size <= 8; size++ {
		a, _ := sum.Number(7, size)
		b, _ := sum.Number(7, size)
		if meet(a, b) {
			t.Error(size, "memory is shared")
		}
		writeOver(a)
		c, _ := sum.Number(7, size)
		if want, _ := digits(7, size); !bytes.Equal(b, want) || !bytes.Equal(c, want) {
			t.Error(size, b, c)
		}
	}
}
