package digest_test

import (
	"bytes"
	"fmt"
	"strings"
)

// show tells anything, not all of it.
func show(x any) string {
	s := fmt.Sprint(x)
	return s[:min(len(s), 300)]
}

// noise are so many bytes, others for each seed.
func noise(n, seed int) []byte {
	b := make([]byte, n)
	x := uint64(seed)*2862933555777941757 + 3037000493
	for i := range b {
		x = x*6364136223846793005 + 1442695040888963407
		b[i] = byte(x >> 56)
	}
	return b
}

// beyond is where numbers of 32 bits end.
const beyond = 1 << 32

// turn turns a number: each bit by itself.
func turn(x, n int) int {
	out := 0
	for i := range 32 {
		out |= x >> i & 1 << ((i + n) % 32)
	}
	return out
}

// inBytes is a number in so many bytes, the highest first.
func inBytes(x, size int) []byte {
	b := make([]byte, size)
	for i := range b {
		b[size-1-i] = byte(x % 256)
		x /= 256
	}
	return b
}

// shaOf is a digest, as the document's words say it, in numbers that are wider.
func shaOf(in []byte) []byte {
	b := append(bytes.Clone(in), 128)
	for (len(b)+8)%64 != 0 {
		b = append(b, 0)
	}
	b = append(b, inBytes(8*len(in), 8)...)
	h := []int{1732584193, 4023233417, 2562383102, 271733878, 3285377520}
	for ; len(b) > 0; b = b[64:] {
		var w [80]int
		for i := range 16 {
			for _, x := range b[4*i : 4*i+4] {
				w[i] = w[i]*256 + int(x)
			}
		}
		for i := 16; i < 80; i++ {
			w[i] = turn(w[i-3]^w[i-8]^w[i-14]^w[i-16], 1)
		}
		five := fiveOf(h, w)
		for i := range h {
			h[i] = (h[i] + five[i]) % beyond
		}
	}
	var out []byte
	for _, x := range h {
		out = append(out, inBytes(x, 4)...)
	}
	return out
}

// fiveOf are a, b, c, d and e behind the eighty.
func fiveOf(h []int, w [80]int) []int {
	a, b, c, d, e := h[0], h[1], h[2], h[3], h[4]
	for i := range 80 {
		f, k := b^c^d, 3395469782
		if i <= 19 {
			f, k = (b&c)|((beyond-1-b)&d), 1518500249
		} else if i <= 39 {
			k = 1859775393
		} else if i <= 59 {
			f, k = (b&c)|(b&d)|(c&d), 2400959708
		}
		t := (turn(a, 5) + f + e + k + w[i]) % beyond
		a, b, c, d, e = t, a, turn(b, 30), c, d
	}
	return []int{a, b, c, d, e}
}

// tagOf is a tag, as the words say it.
func tagOf(key, b []byte) []byte {
	if len(key) > 64 {
		key = shaOf(key)
	}
	var inner, outer []byte
	for i := range 64 {
		k := byte(0)
		if i < len(key) {
			k = key[i]
		}
		inner, outer = append(inner, k^54), append(outer, k^92)
	}
	return shaOf(append(outer, shaOf(append(inner, b...))...))
}

// signOf is the sign of a number below 64.
func signOf(n int) byte {
	switch {
	case n < 26:
		return byte('A' + n)
	case n < 52:
		return byte('a' + n - 26)
	case n < 62:
		return byte('0' + n - 52)
	case n == 62:
		return '+'
	}
	return '/'
}

// bitsOf are the bits of bytes, the highest first, as signs 0 and 1.
func bitsOf(b []byte) string {
	var s strings.Builder
	for _, x := range b {
		fmt.Fprintf(&s, "%08b", x)
	}
	return s.String()
}

// encodeOf is base 64, bit by bit.
func encodeOf(b []byte) string {
	s, out := bitsOf(b), ""
	for len(s)%6 != 0 {
		s += "0"
	}
	for ; s != ""; s = s[6:] {
		n := 0
		for _, c := range s[:6] {
			n = n*2 + int(c-'0')
		}
		out += string(signOf(n))
	}
	for len(out)%4 != 0 {
		out += "="
	}
	return out
}

// decodeOf are the bytes whose text that is, and whether it is any's: what its signs' bits say, if the words make the text of that.
func decodeOf(s string) ([]byte, bool) {
	var b []byte
	x, n := 0, 0
	for _, c := range []byte(strings.TrimRight(s, "=")) {
		v := 0
		for v < 64 && signOf(v) != c {
			v++
		}
		x, n = (x*64+v)%(1<<20), n+6
		if n >= 8 {
			n -= 8
			b = append(b, byte(x>>n))
		}
	}
	return b, encodeOf(b) == s
}
