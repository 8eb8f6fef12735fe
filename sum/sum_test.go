package sum_test

import (
	"bytes"
	"encoding/binary"
	"hash/crc32"
	"math"
	"slices"
	"strings"
	"testing"

	"blotter/api"
	"blotter/sum"
)

// ends are numbers at the ends of what an int may be, and about sizes and places.
var ends = []int{math.MinInt, math.MinInt + 1, -256, -9, -8, -2, -1, 0, 1, 2, 7, 8, 9, 255, 256, 1 << 32, math.MaxInt - 8, math.MaxInt - 7, math.MaxInt - 1, math.MaxInt}

func TestP91Examples(t *testing.T) {
	for i, x := range []struct {
		b    []byte
		want int
	}{
		{nil, 0}, {[]byte{}, 0}, {[]byte("a"), 3904355907}, {[]byte("123456789"), 3421780262}, {[]byte{0}, 3523407757},
		// Where a byte takes all eight ones away, the steps only halve.
		{[]byte{255}, 4278190080}, {[]byte{255, 255, 255, 255}, 4294967295},
	} {
		if n := sum.Sum(x.b); n != x.want {
			t.Error(i, n)
		}
	}
}

// TestP91OfEach holds the sum against the words, and against another program that is known to tell it, over all short rows and many long ones.
func TestP91OfEach(t *testing.T) {
	try := func(b []byte) {
		if n := sum.Sum(b); n != sumOf(b) || n != int(crc32.ChecksumIEEE(b)) {
			t.Fatal(len(b), show(b), n)
		}
	}
	for i := range 256 {
		try([]byte{byte(i)})
		for j := range 256 {
			try([]byte{byte(i), byte(j)})
		}
	}
	for n := range 1100 {
		try(noise(n, n))
		try(bytes.Repeat([]byte{byte(n)}, n))
	}
	for _, n := range []int{api.SectorSize - 4, api.SectorSize, api.MaxValue, api.MaxRecord, 1<<20 + 1} {
		try(noise(n, 1))
		try(make([]byte, n))
		try(bytes.Repeat([]byte{255}, n))
	}
}

func TestP91WhereItStands(t *testing.T) {
	b := noise(64, 3)
	for from := range b {
		for to := from; to <= len(b); to++ {
			if n := sum.Sum(b[from:to]); n != sumOf(b[from:to]) || n < 0 || n > math.MaxUint32 {
				t.Fatal(from, to, n)
			}
		}
	}
}

func TestP92Number(t *testing.T) {
	for i, x := range []struct {
		n, size int
		want    []byte
		e       api.Errno
	}{
		{258, 2, []byte{1, 2}, api.OK}, {256, 1, nil, api.ErrArg}, {-1, 8, nil, api.ErrArg}, {0, 9, nil, api.ErrArg},
		{0, 1, []byte{0}, api.OK}, {255, 1, []byte{255}, api.OK}, {0, 8, make([]byte, 8), api.OK}, {258, 4, []byte{0, 0, 1, 2}, api.OK}, {65535, 2, []byte{255, 255}, api.OK}, {65536, 2, nil, api.ErrArg}, {65536, 3, []byte{1, 0, 0}, api.OK},
		{0x0102030405060708, 8, []byte{1, 2, 3, 4, 5, 6, 7, 8}, api.OK}, {0x0102030405060708, 7, nil, api.ErrArg}, {0x02030405060708, 7, []byte{2, 3, 4, 5, 6, 7, 8}, api.OK}, {math.MaxInt, 8, []byte{127, 255, 255, 255, 255, 255, 255, 255}, api.OK}, {math.MaxInt, 7, nil, api.ErrArg},
		{0, 0, nil, api.ErrArg}, {0, -1, nil, api.ErrArg}, {1, 0, nil, api.ErrArg}, {-1, 0, nil, api.ErrArg}, {-1, 1, nil, api.ErrArg}, {math.MinInt, 8, nil, api.ErrArg}, {math.MinInt, math.MinInt, nil, api.ErrArg}, {math.MaxInt, math.MaxInt, nil, api.ErrArg}, {1, 64, nil, api.ErrArg}, {1, math.MinInt, nil, api.ErrArg}, {1, 1 << 61, nil, api.ErrArg},
	} {
		if b, e := sum.Number(x.n, x.size); !bytes.Equal(b, x.want) || e != x.e || e != api.OK && b != nil {
			t.Error(i, x.n, x.size, b, e)
		}
	}
}

// TestP92NumberOfEach: about each power of two, in all sizes, and those that are none.
func TestP92NumberOfEach(t *testing.T) {
	try := func(n int) {
		for size := -2; size < 12; size++ {
			want, fits := digits(n, size)
			b, e := sum.Number(n, size)
			if fits && (!bytes.Equal(b, want) || e != api.OK) || !fits && (b != nil || e != api.ErrArg) {
				t.Fatal(n, size, b, e)
			}
			if !fits {
				continue
			}
			if back, e := sum.Read(b, 0, size); back != n || e != api.OK {
				t.Fatal(n, size, back, e)
			}
		}
	}
	for i := range 63 {
		for _, n := range []int{1<<i - 1, 1 << i, 1<<i + 1, math.MaxInt - 1<<i, math.MaxInt >> i, -1 << i, -1<<i - 1} {
			try(n)
		}
	}
	for i := range 5000 {
		n := int(binary.BigEndian.Uint64(noise(8, i)))
		try(n)
		try(n & math.MaxInt >> (i % 60))
	}
	for _, n := range ends {
		try(n)
		for _, size := range ends {
			b, e := sum.Number(n, size)
			if want, fits := digits(n, size); !bytes.Equal(b, want) || fits != (e == api.OK) {
				t.Fatal(n, size, b, e)
			}
		}
	}
}

func TestP92Read(t *testing.T) {
	full := bytes.Repeat([]byte{255}, 8)
	for i, x := range []struct {
		b        []byte
		at, size int
		want     int
		e        api.Errno
	}{
		{[]byte{1, 2, 3}, 1, 2, 515, api.OK}, {[]byte{1, 2, 3}, 2, 2, 0, api.ErrArg}, {full, 0, 8, 0, api.ErrArg},
		{[]byte{1, 2, 3}, 0, 3, 66051, api.OK}, {[]byte{1, 2, 3}, 0, 1, 1, api.OK}, {[]byte{1, 2, 3}, 2, 1, 3, api.OK}, {[]byte{1, 2, 3}, 3, 1, 0, api.ErrArg}, {[]byte{1, 2, 3}, 0, 4, 0, api.ErrArg}, {[]byte{1, 2, 3}, 0, 0, 0, api.ErrArg}, {[]byte{1, 2, 3}, 3, 0, 0, api.ErrArg}, {[]byte{1, 2, 3}, 1, -1, 0, api.ErrArg}, {[]byte{1, 2, 3}, -1, 1, 0, api.ErrArg}, {[]byte{1, 2, 3}, -1, 4, 0, api.ErrArg}, {[]byte{1, 2, 3}, 4, 1, 0, api.ErrArg}, {nil, 0, 1, 0, api.ErrArg}, {nil, 0, 0, 0, api.ErrArg}, {nil, -1, 1, 0, api.ErrArg}, {full[:7], 0, 8, 0, api.ErrArg}, {full[:7:7], 0, 8, 0, api.ErrArg}, {bytes.Repeat([]byte{0}, 9), 0, 9, 0, api.ErrArg}, {make([]byte, 9), 1, 8, 0, api.OK}, {make([]byte, 9), 2, 8, 0, api.ErrArg},
		{[]byte{1, 2, 3}, math.MaxInt, 1, 0, api.ErrArg}, {[]byte{1, 2, 3}, math.MaxInt, 8, 0, api.ErrArg}, {[]byte{1, 2, 3}, math.MinInt, 8, 0, api.ErrArg}, {[]byte{1, 2, 3}, 0, math.MinInt, 0, api.ErrArg}, {[]byte{1, 2, 3}, 0, math.MaxInt, 0, api.ErrArg}, {[]byte{1, 2, 3}, math.MaxInt, math.MaxInt, 0, api.ErrArg}, {[]byte{1, 2, 3}, math.MinInt, math.MinInt, 0, api.ErrArg},
		// The greatest number, and the one beyond it.
		{[]byte{127, 255, 255, 255, 255, 255, 255, 255}, 0, 8, math.MaxInt, api.OK}, {[]byte{128, 0, 0, 0, 0, 0, 0, 0}, 0, 8, 0, api.ErrArg}, {[]byte{255, 0, 0, 0, 0, 0, 0, 1}, 0, 8, 0, api.ErrArg}, {full, 0, 7, 1<<56 - 1, api.OK}, {full, 1, 7, 1<<56 - 1, api.OK}, {full, 4, 4, math.MaxUint32, api.OK},
	} {
		if n, e := sum.Read(x.b, x.at, x.size); n != x.want || e != x.e {
			t.Error(i, x.b, x.at, x.size, n, e)
		}
	}
}

func TestP92ReadOfEach(t *testing.T) {
	for i := range 200 {
		b := noise(i%20, i)
		for at := -3; at < len(b)+3; at++ {
			for size := -3; size < 12; size++ {
				want, e := numberAt(b, at, size)
				if n, f := sum.Read(b, at, size); n != want || f != e {
					t.Fatal(b, at, size, n, f)
				}
				// Room behind a row's end is none of its bytes.
				if n, f := sum.Read(spared(b), at, size); n != want || f != e {
					t.Fatal("spare room", b, at, size, n, f)
				}
			}
		}
		for _, at := range ends {
			for _, size := range ends {
				want, e := numberAt(b, at, size)
				if n, f := sum.Read(b, at, size); n != want || f != e {
					t.Fatal(b, at, size, n, f)
				}
			}
		}
	}
}

func TestP93Examples(t *testing.T) {
	for i, x := range []struct{ b, want []byte }{
		{[]byte("a"), []byte{97, 67, 190, 183, 232}}, {nil, []byte{0, 0, 0, 0}}, {[]byte{}, []byte{0, 0, 0, 0}}, {[]byte("123456789"), []byte("123456789\x26\x39\xf4\xcb")}, {[]byte{0, 0, 0, 0}, []byte{0, 0, 0, 0, 28, 223, 68, 33}}, {[]byte{255, 255, 255, 255}, bytes.Repeat([]byte{255}, 8)},
	} {
		if b := sum.Seal(x.b); !bytes.Equal(b, x.want) {
			t.Error(i, "Seal", b)
		}
		if b, ok := sum.Open(x.want); !bytes.Equal(b, x.b) || !ok {
			t.Error(i, "Open", b, ok)
		}
	}
}

func TestP93OpenRefuses(t *testing.T) {
	refuse := func(b []byte) {
		if got, ok := sum.Open(b); got != nil || ok {
			t.Error(show(b), show(got), ok)
		}
	}
	// There is no room for a sum.
	for _, b := range [][]byte{nil, {}, {0}, {0, 0}, {0, 0, 0}, {1, 2, 3}, {67, 190, 183}} {
		refuse(b)
	}
	// Not the sum of what is ahead of it: none, the highest byte first, that of the whole, that of less, a byte more or less.
	for _, b := range [][]byte{{97, 0, 0, 0, 0}, {97, 232, 183, 190, 67}, {67, 190, 183, 232, 97}, {97, 67, 190, 183, 232, 0}, {0, 97, 67, 190, 183, 232}, {97, 67, 190, 183}, {67, 190, 183, 232}, {97, 97, 67, 190, 183, 232}, {98, 67, 190, 183, 232}, {0, 0, 0, 1}, {1, 0, 0, 0}, {255, 255, 255, 255}, {0, 0, 0, 0, 0}} {
		refuse(b)
	}
	for n := range 300 {
		b := sum.Seal(noise(n, n))
		for _, cut := range []int{1, 2, 3, 4} {
			if wrong := b[:len(b)-cut]; !isSealed(wrong) {
				refuse(wrong)
			}
		}
		refuse(append(slices.Clone(b), 'x'))
		refuse(append([]byte{'x'}, b...))
	}
}

// TestP93OfEach: all rows of up to two bytes and of a few others, and of four with a sum that is theirs or is not.
func TestP93OfEach(t *testing.T) {
	for i := range 256 {
		for j := range 256 {
			try := []byte{byte(i), byte(j)}
			if b := sum.Seal(try); !bytes.Equal(b, sealOf(try)) {
				t.Fatal(try, b)
			}
			// What is opened is what the words seal so, whatever comes in.
			for _, b := range [][]byte{{byte(i), 67, 190, 183, byte(j)}, {byte(i), 0, byte(j), 0}, {97, byte(i), byte(j), 183, 232}, {97, 67, byte(i), byte(j), 232}} {
				if got, ok := sum.Open(b); ok != isSealed(b) || ok && !bytes.Equal(got, b[:len(b)-4]) || !ok && got != nil {
					t.Fatal(b, got, ok)
				}
			}
		}
	}
	for n := range 1100 {
		x := noise(n, n+7)
		if b := sum.Seal(x); !bytes.Equal(b, sealOf(x)) {
			t.Fatal(n, show(b))
		}
	}
}

// TestP95ThereAndBack: what was sealed is opened, and what is opened is sealed as it was.
func TestP95ThereAndBack(t *testing.T) {
	try := func(b []byte) {
		x := sum.Seal(b)
		got, ok := sum.Open(x)
		if !ok || !bytes.Equal(got, b) {
			t.Fatal(show(b), show(got), ok)
		}
		if again := sum.Seal(got); !bytes.Equal(again, x) {
			t.Fatal(show(b), show(again))
		}
	}
	try(nil)
	for i := range 256 {
		for j := range 256 {
			try([]byte{byte(i), byte(j)})
		}
		try([]byte{byte(i)})
	}
	for n := range 1100 {
		try(noise(n, n))
		try(make([]byte, n))
		try(sum.Seal(noise(n, n)))
	}
	for _, n := range []int{api.SectorSize - 4, api.MaxValue, api.MaxRecord, 1 << 20} {
		try(noise(n, 5))
	}
	try([]byte(strings.Repeat("sealed", 1000)))
}

// refuseOthers puts others into each four neighbours of a sealed row in turn: none of those rows is opened.
func refuseOthers(t *testing.T, b []byte, others func(four []byte, try func())) {
	for at := 0; at+4 <= len(b); at++ {
		four := b[at : at+4]
		was := [4]byte(four)
		others(four, func() {
			if was == [4]byte(four) {
				return
			}
			if got, ok := sum.Open(b); ok || got != nil {
				t.Fatal(at, was, four)
			}
		})
		copy(four, was[:])
	}
	if _, ok := sum.Open(b); !ok {
		t.Fatal("not as it was")
	}
}

// TestP95OneOther: each single byte of sealed rows is each other one, those of the sum, too.
func TestP95OneOther(t *testing.T) {
	for _, n := range []int{0, 1, 2, 3, 4, 5, 31, 64, 508} {
		refuseOthers(t, sum.Seal(noise(n, n)), func(four []byte, try func()) {
			for i, was := range four {
				for j := range 256 {
					if n < 100 || j%16 == 0 {
						four[i] = byte(j)
						try()
					}
				}
				four[i] = was
			}
		})
	}
}

// TestP95TwoOthers: each two neighbours of short rows are each two others.
func TestP95TwoOthers(t *testing.T) {
	for _, n := range []int{0, 1, 5} {
		refuseOthers(t, sum.Seal(noise(n, n+1)), func(four []byte, try func()) {
			for i := range 1 << 16 {
				four[0], four[1] = byte(i>>8), byte(i)
				try()
			}
		})
	}
}

// TestP95FourOthers: up to four neighbours are others, a few bits of them, or all by chance; so that a sum that looked at some bits, or at some bytes, alone would be found out.
func TestP95FourOthers(t *testing.T) {
	for _, n := range []int{0, 1, 4, 9, 40, 508} {
		b := sum.Seal(noise(n, n+2))
		refuseOthers(t, b, func(four []byte, try func()) {
			was := binary.LittleEndian.Uint32(four)
			for i := range 32 {
				for j := range i + 1 {
					binary.LittleEndian.PutUint32(four, was^(1<<i|1<<j))
					try()
				}
			}
			for i := range 64 {
				copy(four, noise(4, i))
				try()
			}
			for _, mark := range []uint32{0, math.MaxUint32, ^was, 0xedb88320, was ^ 0xedb88320, was ^ 0x04c11db7, was<<8 | was>>24, was<<16 | was>>16, was>>8 | was<<24} {
				binary.LittleEndian.PutUint32(four, mark)
				try()
			}
		})
	}
}
