package digest_test

import (
	"bytes"
	"slices"
	"testing"

	"blotter/digest"
)

// spared are the same bytes with spare room, full of marks.
func spared(b []byte) []byte {
	return append(bytes.Clone(b), bytes.Repeat([]byte{0xa5}, 70)...)[:len(b)]
}

// whole are bytes and their spare room, as they are now.
func whole(b []byte) []byte { return slices.Clone(b[:cap(b)]) }

// writeOver makes all of them others, in their spare room, too.
func writeOver(b []byte) {
	for i := range b[:cap(b)] {
		b[:cap(b)][i] ^= 0xff
	}
}

// calls are the calls that take bytes or answer them, of two rows; what they answer, as bytes.
func calls() map[string]func(key, b []byte) []byte {
	return map[string]func(key, b []byte) []byte{
		"Sha":    func(key, b []byte) []byte { return digest.Sha(b) },
		"Tag":    func(key, b []byte) []byte { return digest.Tag(key, b) },
		"Encode": func(key, b []byte) []byte { return []byte(digest.Encode(b)) },
		"Hex":    func(key, b []byte) []byte { return []byte(digest.Hex(b)) },
		"Decode": func(key, b []byte) []byte { x, _ := digest.Decode(encodeOf(b)); return x },
		"Right": func(key, b []byte) []byte {
			if digest.Right(key, b, b[:min(len(b), 20)]) {
				return []byte{1}
			}
			return nil
		},
	}
}

func TestP104NewMemory(t *testing.T) {
	var rows [][]byte
	for _, n := range []int{0, 1, 2, 3, 19, 20, 21, 54, 55, 56, 63, 64, 65, 127, 128, 129, 300} {
		rows = append(rows, noise(n, n))
	}
	for name, call := range calls() {
		for _, k := range rows {
			for _, row := range rows {
				key, b := spared(k), spared(row)
				keyWas, was := whole(key), whole(b)
				first, second := call(key, b), call(key, b)
				want, room := slices.Clone(first), whole(second)
				writeOver(first)
				if !bytes.Equal(whole(key), keyWas) || !bytes.Equal(whole(b), was) {
					t.Fatal(name, show(k), show(row), "what was handed in is changed")
				}
				if !bytes.Equal(whole(second), room) || !bytes.Equal(second, want) {
					t.Fatal(name, show(k), show(row), "two answers share memory")
				}
				writeOver(key)
				writeOver(b)
				if !bytes.Equal(whole(second), room) {
					t.Fatal(name, show(k), show(row), "an answer shares what was handed in")
				}
				if !bytes.Equal(call(spared(k), spared(row)), want) {
					t.Fatal(name, show(k), show(row), "something is kept")
				}
			}
		}
	}
}

// TestP104WrittenOver: what a call answers hangs on the bytes that stand there when it is called; a text that it told stays.
func TestP104WrittenOver(t *testing.T) {
	key, b := noise(30, 1), noise(90, 2)
	text, hex, tag := digest.Encode(b), digest.Hex(b), digest.Tag(key, b)
	kept := bytes.Clone(tag)
	copy(b, noise(90, 3))
	if text != encodeOf(noise(90, 2)) || hex != hexOf(noise(90, 2)) {
		t.Error("a text shares what was handed in")
	}
	if digest.Right(key, b, tag) || !bytes.Equal(digest.Sha(b), shaOf(noise(90, 3))) {
		t.Error("the bytes are kept")
	}
	copy(b, noise(90, 2))
	if !digest.Right(key, b, tag) || !bytes.Equal(tag, kept) {
		t.Error("not as it was")
	}
	copy(key, noise(30, 4))
	if digest.Right(key, b, tag) {
		t.Error("the key is kept")
	}
}

// TestP104TagOverItsBytes: a tag may be looked for within the very bytes that were handed in.
func TestP104TagOverItsBytes(t *testing.T) {
	row := append(noise(40, 1), make([]byte, 20)...)
	copy(row[40:], tagOf(row[:10], row[10:40]))
	was := bytes.Clone(row)
	if !digest.Right(row[:10], row[10:40], row[40:]) || !bytes.Equal(row, was) {
		t.Error(show(row))
	}
	if tag := digest.Tag(row[:10], row[10:40]); !bytes.Equal(tag, was[40:]) || !bytes.Equal(row, was) {
		t.Error(show(row))
	}
}
