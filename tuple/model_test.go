package tuple_test

import (
	"fmt"
	"math/big"
	"regexp"
	"slices"
	"strings"

	"blotter/api"
)

// show tells anything, not all of it.
func show(x any) string {
	s := fmt.Sprintf("%+q", x)
	if l, ok := x.([]api.Part); ok {
		s = ""
		for _, p := range l {
			s += fmt.Sprintf("{%d %d %+q}", p.Kind, p.Int, p.Text)
		}
	}
	return s[:min(len(s), 300)]
}

// noise are so many bytes, others for each seed.
func noise(n, seed int) []byte {
	b := make([]byte, n)
	x := uint64(seed)*2862933555777941757 + 3037000493
	for i := range b {
		x = x*6364136223846793005 + 1442695040888963407
		b[i] = byte(x >> 56)
	}
	return b
}

// row is a row of numbers and texts.
func row(parts ...any) []api.Part {
	var l []api.Part
	for _, p := range parts {
		switch x := p.(type) {
		case int:
			l = append(l, api.Part{Kind: api.PartInt, Int: x})
		case string:
			l = append(l, api.Part{Kind: api.PartText, Text: x})
		default:
			l = append(l, p.(api.Part))
		}
	}
	return l
}

// orderOf is how two rows stand, by the words.
func orderOf(a, b []api.Part) int {
	way := func(less, more bool) int {
		if less {
			return -1
		}
		if more {
			return 1
		}
		return 0
	}
	for i := range min(len(a), len(b)) {
		x, y := a[i], b[i]
		for _, w := range []int{way(x.Kind < y.Kind, x.Kind > y.Kind), way(x.Int < y.Int, x.Int > y.Int), way(x.Text < y.Text, x.Text > y.Text)} {
			if w != 0 {
				return w
			}
		}
	}
	return way(len(a) < len(b), len(a) > len(b))
}

// keyOf is a tuple's key, by the words: numbers as wide as they come.
func keyOf(l []api.Part) (string, api.Errno) {
	if len(l) < 1 || len(l) > 8 {
		return "", api.ErrTuple
	}
	key := ""
	for _, p := range l {
		switch {
		case p.Kind == api.PartInt && p.Text == "":
			n := new(big.Int).Add(big.NewInt(int64(p.Int)), new(big.Int).Lsh(big.NewInt(1), 63))
			key += "\x01" + string(n.FillBytes(make([]byte, 8)))
		case p.Kind == api.PartText && p.Int == 0:
			key += "\x02" + strings.ReplaceAll(p.Text, "\x00", "\x00\xff") + "\x00\x00"
		default:
			return "", api.ErrTuple
		}
	}
	if len(key) > 100 {
		return "", api.ErrLong
	}
	return key, api.OK
}

// wide is a text whose runes are the bytes of another one.
func wide(s string) string {
	var w []rune
	for i := range len(s) {
		w = append(w, rune(s[i]))
	}
	return string(w)
}

// narrow is the way back.
func narrow(s string) string {
	var b []byte
	for _, r := range s {
		b = append(b, byte(r))
	}
	return string(b)
}

// The form of a key, its bytes told as runes, and that of its parts.
var (
	keyForm  = regexp.MustCompile(`^(?s:\x01.{8}|\x02(?:[^\x00]|\x00ÿ)*\x00\x00){1,8}$`)
	partForm = regexp.MustCompile(`^(?s:\x01(.{8})|\x02((?:[^\x00]|\x00ÿ)*)\x00\x00)`)
)

// readOf is the tuple of a key, by the form of keys.
func readOf(key string) ([]api.Part, api.Errno) {
	if len(key) > 100 {
		return nil, api.ErrLong
	}
	w := wide(key)
	if !keyForm.MatchString(w) {
		return nil, api.ErrTuple
	}
	var l []api.Part
	for w != "" {
		m := partForm.FindStringSubmatch(w)
		w = w[len(m[0]):]
		if m[0][0] == 1 {
			n := new(big.Int).SetBytes([]byte(narrow(m[1])))
			n.Sub(n, new(big.Int).Lsh(big.NewInt(1), 63))
			l = append(l, api.Part{Kind: api.PartInt, Int: int(n.Int64())})
		} else {
			l = append(l, api.Part{Kind: api.PartText, Text: strings.ReplaceAll(narrow(m[2]), "\x00\xff", "\x00")})
		}
	}
	return l, api.OK
}

// texts are all texts of up to so many of some bytes.
func texts(n int, of string) []string {
	all, longest := []string{""}, []string{""}
	for range n {
		var longer []string
		for _, s := range longest {
			for i := range len(of) {
				longer = append(longer, s+of[i:i+1])
			}
		}
		all, longest = append(all, longer...), longer
	}
	return all
}

// rows are all rows of up to so many of some parts, the one of none among them.
func rows(n int, of []api.Part) [][]api.Part {
	all, longest := [][]api.Part{nil}, [][]api.Part{nil}
	for range n {
		var longer [][]api.Part
		for _, l := range longest {
			for _, p := range of {
				longer = append(longer, append(slices.Clone(l), p))
			}
		}
		all, longest = append(all, longer...), longer
	}
	return all
}

// ints are numbers about the edges of their bytes.
func ints() []int {
	l := []int{0, 97, -api.MaxInt - 1, api.MaxInt}
	for i := range 63 {
		n := 1 << i
		l = append(l, n-1, n, n+1, -n-1, -n, 1-n)
	}
	slices.Sort(l)
	return slices.Compact(l)
}
