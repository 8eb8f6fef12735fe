// Package runes is layer 1: texts by runes: see shared/doc/01-runes.md.
package runes

import (
	"strings"
	"unicode/utf8"

	"blotter/api"
)

// instead is what a range over a text tells in the place of bytes that are no rune; as a rune of its own it has these bytes.
const instead = "\uFFFD"

// Count is how many runes a text has.
func Count(s string) (int, api.Errno) {
	n := 0
	for at, r := range s {
		if n == api.MaxText || r == utf8.RuneError && !strings.HasPrefix(s[at:], instead) {
			return 0, api.ErrText
		}
		n++
	}
	return n, api.OK
}

// Cut are the runes from one place up to another one.
func Cut(s string, from, to int) (string, api.Errno) {
	n, e := Count(s)
	if e != api.OK {
		return "", e
	}
	if from < 0 || from > to || to > n {
		return "", api.ErrArg
	}
	begin := offset(s, from)
	end := begin + offset(s[begin:], to-from)
	// A piece of s would share its memory.
	return strings.Clone(s[begin:end]), api.OK
}

// Place is the offset of a place.
func Place(s string, at int) (int, api.Errno) {
	n, e := Count(s)
	if e != api.OK {
		return 0, e
	}
	if at < 0 || at > n {
		return 0, api.ErrArg
	}
	return offset(s, at), api.OK
}

// Splice puts a text in the place of some runes.
func Splice(s string, at, gone int, put string) (string, api.Errno) {
	n, m, e := counts(s, put)
	if e != api.OK {
		return "", e
	}
	if at < 0 || at > n || gone < 0 || gone > n-at {
		return "", api.ErrArg
	}
	if n-gone+m > api.MaxText {
		return "", api.ErrBig
	}
	begin := offset(s, at)
	end := begin + offset(s[begin:], gone)
	// A sum of texts may be one of them itself, where the others are empty; what is built is new memory.
	var b strings.Builder
	b.WriteString(s[:begin])
	b.WriteString(put)
	b.WriteString(s[end:])
	return b.String(), api.OK
}

// Ahead is how many runes two texts begin with alike.
func Ahead(a, b string) (int, api.Errno) {
	if _, _, e := counts(a, b); e != api.OK {
		return 0, e
	}
	return ahead([]rune(a), []rune(b)), api.OK
}

// Behind is how many they end with alike, behind those.
func Behind(a, b string) (int, api.Errno) {
	if _, _, e := counts(a, b); e != api.OK {
		return 0, e
	}
	x, y := []rune(a), []rune(b)
	most := min(len(x), len(y)) - ahead(x, y)
	return alike(most, func(i int) bool { return x[len(x)-1-i] == y[len(y)-1-i] }), api.OK
}

// Lines are a text's lines.
func Lines(s string) ([]string, api.Errno) {
	if _, e := Count(s); e != api.OK {
		return nil, e
	}
	l := strings.Split(s, "\n")
	for i := range l {
		// A piece of s would share its memory.
		l[i] = strings.Clone(l[i])
	}
	return l, api.OK
}

// counts is Count of two.
func counts(a, b string) (int, int, api.Errno) {
	n, e := Count(a)
	if e != api.OK {
		return 0, 0, e
	}
	m, e := Count(b)
	if e != api.OK {
		return 0, 0, e
	}
	return n, m, api.OK
}

// offset is how many bytes the first runes of a text have: so many, or all, if there are less.
func offset(s string, many int) int {
	for at := range s {
		if many == 0 {
			return at
		}
		many--
	}
	return len(s)
}

// ahead is how many runes both begin with.
func ahead(x, y []rune) int {
	return alike(min(len(x), len(y)), func(i int) bool { return x[i] == y[i] })
}

// alike is how many pairs, of at most so many, are the same up to the first that is not.
func alike(most int, same func(i int) bool) int {
	n := 0
	for n < most && same(n) {
		n++
	}
	return n
}
