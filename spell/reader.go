package spell

import (
	"strconv"
	"strings"

	"blotter/api"
)

// reader goes through a text from the front.
type reader struct {
	s  string
	at int
}

// misplaced is what a reader throws: the offset of the first thing that cannot stand there.
type misplaced int

// caught is the edge up to which a reader throws: the fault that came of the call.
func caught(read func()) (f api.Fault) {
	defer func() {
		switch x := recover().(type) {
		case nil:
		case misplaced:
			f = api.Fault{Code: api.ErrSpell, At: int(x)}
		default:
			// No reader threw it: told as a fault of the text, it would hide one of the program.
			panic(x)
		}
	}()
	read()
	return api.Fault{}
}

// change reads a changeset up to the end of the text.
func (r *reader) change() api.Change {
	c := api.Change{From: r.number()}
	for r.at < len(r.s) {
		r.must(' ')
		c.Ops = append(c.Ops, r.op())
	}
	return c
}

// op reads an operation.
func (r *reader) op() api.Op {
	begin := r.at
	var o api.Op
	switch r.take() {
	case '-':
		return api.Op{Kind: api.OpDelete, N: r.number()}
	case '=':
		o.Kind, o.N = api.OpKeep, r.number()
	case '+':
		o.Kind, o.Text = api.OpInsert, r.quoted()
	default:
		panic(misplaced(begin))
	}
	if r.sees('{') {
		o.Attrs = r.attrs()
	}
	return o
}

// attrs reads attributes, of which there is one at least.
func (r *reader) attrs() []api.Attr {
	r.must('{')
	l := []api.Attr{r.attr()}
	for r.sees(',') {
		r.must(',')
		l = append(l, r.attr())
	}
	r.must('}')
	return l
}

// attr reads one attribute.
func (r *reader) attr() api.Attr {
	begin := r.at
	key := r.all(keyByte)
	if key == "" {
		panic(misplaced(begin))
	}
	r.must(':')
	return api.Attr{Key: key, Value: r.quoted()}
}

// number reads a number.
func (r *reader) number() int {
	begin := r.at
	digits := r.all(digit)
	if len(digits) > maxDigits || strings.HasPrefix(digits, "0") && digits != "0" {
		panic(misplaced(begin))
	}
	n, e := strconv.Atoi(digits)
	if e != nil {
		panic(misplaced(begin))
	}
	return n
}

// quoted reads a text in quotes.
func (r *reader) quoted() string {
	r.must('"')
	var w strings.Builder
	for !r.sees('"') {
		w.WriteByte(r.inside())
	}
	r.must('"')
	return w.String()
}

// inside reads what stands for one byte of a text in quotes.
func (r *reader) inside() byte {
	begin := r.at
	b := r.take()
	if control(b) {
		panic(misplaced(begin))
	}
	if b != '\\' {
		return b
	}
	switch b = r.take(); b {
	case '"', '\\':
		return b
	case 'n':
		return '\n'
	case 'x':
		high := r.digit16()
		b = high<<4 | r.digit16()
		// Any other byte has another spelling, and no text has two.
		if control(b) && b != '\n' {
			return b
		}
		panic(misplaced(begin))
	}
	panic(misplaced(begin + 1))
}

// digit16 reads a digit of base sixteen.
func (r *reader) digit16() byte {
	begin := r.at
	switch b := r.take(); {
	case 'a' <= b && b <= 'f':
		// As if it stood right behind the 9.
		b -= 'a' - '9' - 1
		fallthrough
	case digit(b):
		return b - '0'
	}
	panic(misplaced(begin))
}

// all reads as many bytes of a kind as there are.
func (r *reader) all(kind func(b byte) bool) string {
	begin := r.at
	for r.at < len(r.s) && kind(r.s[r.at]) {
		r.at++
	}
	return r.s[begin:r.at]
}

// take reads a byte, whichever it is.
func (r *reader) take() byte {
	if r.at == len(r.s) {
		panic(misplaced(r.at))
	}
	r.at++
	return r.s[r.at-1]
}

// must reads this byte.
func (r *reader) must(b byte) {
	if !r.sees(b) {
		panic(misplaced(r.at))
	}
	r.at++
}

// sees tells whether this byte comes next.
func (r *reader) sees(b byte) bool { return r.at < len(r.s) && r.s[r.at] == b }

// digit tells whether a byte is a digit of base ten.
func digit(b byte) bool { return '0' <= b && b <= '9' }

// keyByte tells whether a byte may stand in a key.
func keyByte(b byte) bool {
	return 'A' <= b && b <= 'Z' || 'a' <= b && b <= 'z' || digit(b) || b == '-' || b == '_'
}
