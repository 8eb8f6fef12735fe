package sum_test

import (
	"bytes"
	"fmt"
	"math/big"
	"slices"

	"blotter/api"
)

// show tells anything, not all of it.
func show(x any) string {
	s := fmt.Sprint(x)
	return s[:min(len(s), 300)]
}

// noise are so many bytes, others for each seed.
func noise(n, seed int) []byte {
	b := make([]byte, n)
	x := uint64(seed)*2862933555777941757 + 3037000493
	for i := range b {
		x = x*6364136223846793005 + 1442695040888963407
		b[i] = byte(x >> 56)
	}
	return b
}

// step is a step of a sum, as the document's words say it.
func step(n int) int {
	half := n / 2
	if n%2 == 1 {
		return half ^ 3988292384
	}
	return half
}

// sumOf is a sum of bytes, bit by bit.
func sumOf(b []byte) int {
	const full = 1<<32 - 1
	n := full
	for _, x := range b {
		n ^= int(x)
		for range 8 {
			n = step(n)
		}
	}
	return n ^ full
}

// sealOf is what the words say of bytes and their sum, the lowest byte of it first.
func sealOf(b []byte) []byte {
	out, n := slices.Clone(b), sumOf(b)
	for range 4 {
		out = append(out, byte(n%256))
		n /= 256
	}
	return out
}

// isSealed tells whether bytes are a seal of some.
func isSealed(b []byte) bool {
	return len(b) >= 4 && bytes.Equal(b, sealOf(b[:len(b)-4]))
}

// digits is a number in so many bytes, and whether it has them.
func digits(n, size int) ([]byte, bool) {
	if size < 1 || size > 8 || n < 0 {
		return nil, false
	}
	b := big.NewInt(int64(n)).Bytes()
	if len(b) > size {
		return nil, false
	}
	return append(make([]byte, size-len(b)), b...), true
}

// numberAt is the number that stands somewhere.
func numberAt(b []byte, at, size int) (int, api.Errno) {
	if size < 1 || size > 8 || at < 0 || at > len(b) || len(b)-at < size {
		return 0, api.ErrArg
	}
	n := new(big.Int).SetBytes(b[at : at+size])
	if !n.IsInt64() {
		return 0, api.ErrArg
	}
	return int(n.Int64()), api.OK
}
