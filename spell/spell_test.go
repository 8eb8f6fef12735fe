package spell_test

import (
	"fmt"
	"math"
	"slices"
	"strconv"
	"strings"
	"testing"
	"unicode/utf8"
	"unsafe"

	"blotter/api"
	"blotter/change"
	"blotter/spell"
)

const (
	keep   = api.OpKeep
	insert = api.OpInsert
	remove = api.OpDelete
)

// fine is the fault of what is read without one.
var fine = api.Fault{}

// wrong is the fault of a text that goes wrong there.
func wrong(at int) api.Fault { return api.Fault{Code: api.ErrSpell, At: at} }

// whole is a fault that has no place.
func whole(e api.Errno) api.Fault { return api.Fault{Code: e, At: -1} }

// row is attributes: a key and its value, by turns.
func row(l ...string) []api.Attr {
	var out []api.Attr
	for i := 0; i < len(l); i += 2 {
		out = append(out, api.Attr{Key: l[i], Value: l[i+1]})
	}
	return out
}

func op(kind, n int, text string, l ...string) api.Op {
	return api.Op{Kind: kind, N: n, Text: text, Attrs: row(l...)}
}

// on is a changeset of these operations.
func on(from int, l ...api.Op) api.Change { return api.Change{From: from, Ops: l} }

// same holds two against each other by their fields.
func same(a, b api.Change) bool {
	return a.From == b.From && slices.EqualFunc(a.Ops, b.Ops, func(x, y api.Op) bool {
		return x.Kind == y.Kind && x.N == y.N && x.Text == y.Text && slices.Equal(x.Attrs, y.Attrs)
	})
}

// cut is the beginning of what may be long.
func cut(s string) string { return s[:min(len(s), 300)] }

// show tells a changeset, whatever it is.
func show(c api.Change) string { return cut(fmt.Sprintf("%d: %+v", c.From, c.Ops)) }

// spelling is how a byte stands in quotes, as the document's words have it.
func spelling(b byte) string {
	switch {
	case b == 34:
		return "\\\""
	case b == 92:
		return "\\\\"
	case b == 10:
		return "\\n"
	case b < 32 || b == 127:
		return fmt.Sprintf("\\x%02x", b)
	}
	return string([]byte{b})
}

// quoted is a text in quotes.
func quoted(s string) string {
	var out strings.Builder
	for _, b := range []byte(s) {
		out.WriteString(spelling(b))
	}
	return "\"" + out.String() + "\""
}

// printed is a changeset's text, operation by operation as it stands.
func printed(c api.Change) string {
	var out strings.Builder
	out.WriteString(strconv.Itoa(c.From))
	for _, o := range c.Ops {
		switch o.Kind {
		case keep:
			out.WriteString(" =" + strconv.Itoa(o.N))
		case insert:
			out.WriteString(" +" + quoted(o.Text))
		case remove:
			out.WriteString(" -" + strconv.Itoa(o.N))
		}
		var l []string
		for _, x := range o.Attrs {
			l = append(l, x.Key+":"+quoted(x.Value))
		}
		if len(l) > 0 {
			out.WriteString("{" + strings.Join(l, ",") + "}")
		}
	}
	return out.String()
}

// eachByte are all bytes, one behind another.
func eachByte() string {
	var l []byte
	for b := range 256 {
		l = append(l, byte(b))
	}
	return string(l)
}

// Pieces that no UTF-8 has anywhere.
var broken = []string{
	"\x80", "\xbf", "\xc2", "\xc0\x80", "\xc1\xbf", "\xc2a", "\xe0\x80\x80", "\xe0\x9f\xbf", "\xe1\x80", "\xed\xa0\x80", "\xed\xbf\xbf",
	"\xf0\x80\x80\x80", "\xf0\x8f\xbf\xbf", "\xf0\x90\x80", "\xf4\x90\x80\x80", "\xf5\x80\x80\x80", "\xfe", "\xff",
}

func TestP41Quote(t *testing.T) {
	long := strings.Repeat("\u00e9\n", 5*api.MaxText)
	for i, x := range []struct{ s, want string }{
		{"", `""`}, {"a", `"a"`}, {"x\n", `"x\n"`}, {`"`, `"\""`}, {`\`, `"\\"`}, {`\n`, `"\\n"`}, {"a\"\\b", `"a\"\\b"`},
		{"\x00\x01\t\r\x1f\x7f", `"\x00\x01\x09\x0d\x1f\x7f"`}, {" !~", `" !~"`}, {"'`\u0080\u2028\ufeff", "\"'`\u0080\u2028\ufeff\""},
		{"\u00e9\ufffd\U0001f600\U0010ffff", "\"\u00e9\ufffd\U0001f600\U0010ffff\""}, {long, "\"" + strings.ReplaceAll(long, "\n", `\n`) + "\""},
	} {
		if s, e := spell.Quote(x.s); s != x.want || e != api.OK {
			t.Error(i, cut(s), e)
		}
	}
	for b := range byte(128) {
		for _, s := range []string{string([]byte{b}), string([]byte{'a', b, b, '0', '0'})} {
			if q, e := spell.Quote(s); q != quoted(s) || e != api.OK {
				t.Errorf("%q: %s %v", s, q, e)
			}
		}
	}
	for _, b := range broken {
		for _, s := range []string{b, "a" + b, b + "a", "\"\u00e9" + b + "\ufffd", long + b} {
			if q, e := spell.Quote(s); q != "" || e != api.ErrText {
				t.Errorf("%q: %s %v", cut(s), cut(q), e)
			}
		}
	}
}

func TestP41Read(t *testing.T) {
	for i, x := range []struct {
		s    string
		at   int
		want string
		end  int
		f    api.Fault
	}{
		{`""`, 0, "", 2, fine}, {`"a"`, 0, "a", 3, fine}, {`"a"b"`, 0, "a", 3, fine}, {`"a"b"`, 2, "b", 5, fine}, {`xx"\n"`, 2, "\n", 6, fine}, {`"\"\\\n\x00\x1f\x7f"`, 0, "\"\\\n\x00\x1f\x7f", 20, fine},
		{"\"\xff\x80\xed\xa0\x80\"", 0, "\xff\x80\xed\xa0\x80", 7, fine}, {"\"\u00e9\U0001f600\"", 0, "\u00e9\U0001f600", 8, fine}, {"\xff\"a\"", 1, "a", 4, fine}, {"\"~ \x80\"\n", 0, "~ \x80", 5, fine},
		{"", 0, "", 0, wrong(0)}, {"a", 0, "", 0, wrong(0)}, {`""`, 1, "", 0, wrong(2)}, {`""`, 2, "", 0, wrong(2)}, {`"`, 0, "", 0, wrong(1)}, {`"ab`, 0, "", 0, wrong(3)}, {` ""`, 0, "", 0, wrong(0)},
		{"\"a\nb\"", 0, "", 0, wrong(2)}, {"\"\x00\"", 0, "", 0, wrong(1)}, {"\"\x1f\"", 0, "", 0, wrong(1)}, {"\"\x7f\"", 0, "", 0, wrong(1)}, {"\"\t\xff\"", 0, "", 0, wrong(1)},
		{`"\`, 0, "", 0, wrong(2)}, {`"\q"`, 0, "", 0, wrong(2)}, {`"\N"`, 0, "", 0, wrong(2)}, {`"\t"`, 0, "", 0, wrong(2)}, {`"\X00"`, 0, "", 0, wrong(2)}, {"\"\\\x00\"", 0, "", 0, wrong(2)}, {`"\"`, 0, "", 0, wrong(3)},
		{`"\x`, 0, "", 0, wrong(3)}, {`"\x"`, 0, "", 0, wrong(3)}, {`"\x0`, 0, "", 0, wrong(4)}, {`"\x0"`, 0, "", 0, wrong(4)}, {`"\x0A"`, 0, "", 0, wrong(4)}, {`"\xA0"`, 0, "", 0, wrong(3)}, {`"\xg0"`, 0, "", 0, wrong(3)}, {`"\x0g"`, 0, "", 0, wrong(4)}, {"\"\\x0`\"", 0, "", 0, wrong(4)}, {`"\x0:"`, 0, "", 0, wrong(4)}, {`"\x/0"`, 0, "", 0, wrong(3)},
		{`"\x0a"`, 0, "", 0, wrong(1)}, {`"\x20"`, 0, "", 0, wrong(1)}, {`"\x41"`, 0, "", 0, wrong(1)}, {`"\x22"`, 0, "", 0, wrong(1)}, {`"\x5c"`, 0, "", 0, wrong(1)}, {`"\x7e"`, 0, "", 0, wrong(1)}, {`"\x80"`, 0, "", 0, wrong(1)}, {`"\xff"`, 0, "", 0, wrong(1)}, {`"a\x4g"`, 0, "", 0, wrong(5)}, {`"\x41`, 0, "", 0, wrong(1)},
		{`"a"`, -1, "", 0, whole(api.ErrArg)}, {`"a"`, 4, "", 0, whole(api.ErrArg)}, {"", 1, "", 0, whole(api.ErrArg)}, {"", -1, "", 0, whole(api.ErrArg)}, {`"a"`, math.MinInt, "", 0, whole(api.ErrArg)}, {`"a"`, math.MaxInt, "", 0, whole(api.ErrArg)},
	} {
		if s, end, f := spell.Read(x.s, x.at); s != x.want || end != x.end || f != x.f {
			t.Errorf("%d: %q %d: %q %d %v", i, x.s, x.at, s, end, f)
		}
	}
	for hex := range 256 {
		s := fmt.Sprintf("\"a\\x%02x\"", hex)
		want, end, fault := "", 0, wrong(2)
		if hex < 32 && hex != 10 || hex == 127 {
			want, end, fault = "a"+string([]byte{byte(hex)}), 7, fine
		}
		if text, n, f := spell.Read(s, 0); text != want || n != end || f != fault {
			t.Errorf("%s: %q %d %v", s, text, n, f)
		}
	}
	long := strings.Repeat(eachByte(), 4000)
	for i, s := range []string{"", "a", eachByte(), long} {
		q := "\"" + strings.NewReplacer(spellings()...).Replace(s) + "\""
		if text, end, f := spell.Read("+"+q+"{", 1); text != s || end != 1+len(q) || f != fine {
			t.Error(i, len(text), end, f)
		}
	}
}

// spellings are all bytes that are spelt otherwise, and their spellings, by turns.
func spellings() []string {
	var l []string
	for _, b := range []byte(eachByte()) {
		if s := string([]byte{b}); s != spelling(b) {
			l = append(l, s, spelling(b))
		}
	}
	return l
}

// texts are changesets in normal form, and their texts.
func texts() []struct {
	c api.Change
	s string
} {
	key, value := strings.Repeat("k", api.MaxAttrKey), strings.Repeat(`"`, api.MaxAttrText)
	return []struct {
		c api.Change
		s string
	}{
		{on(5, op(keep, 2, ""), op(insert, 0, "x\n", "b", "1"), op(remove, 1, "")), `5 =2 +"x\n"{b:"1"} -1`}, {on(0), `0`}, {on(api.MaxText), `20000`}, {on(1), `1`},
		{on(5, op(keep, 5, "", "b", "")), `5 =5{b:""}`}, {on(5, op(keep, 1, "", "a", "1", "b", "", "c", "x y")), `5 =1{a:"1",b:"",c:"x y"}`}, {on(5, op(keep, 1, "", "b", "1"), op(keep, 1, ""), op(remove, 3, "")), `5 =1{b:"1"} =1 -3`},
		{on(0, op(insert, 0, "a"), op(insert, 0, "b", "b", "1"), op(insert, 0, "c", "b", "2")), `0 +"a" +"b"{b:"1"} +"c"{b:"2"}`}, {on(9, op(insert, 0, `"\`), op(remove, 9, "")), `9 +"\"\\" -9`}, {on(0, op(insert, 0, "\x00\t\x7f\u00e9\ufffd\U0001f600", "A-_9", "\"\\~ ")), "0 +\"\\x00\\x09\\x7f\u00e9\ufffd\U0001f600\"{A-_9:\"\\\"\\\\~ \"}"},
		{on(5, op(keep, 1, "", key, value)), `5 =1{` + key + `:"` + strings.Repeat(`\"`, api.MaxAttrText) + `"}`}, {on(5, op(keep, 1, "", "-", "1", "0", "{", "A", "}", "_", ",", "a", ":", "b", "=", "c", "+", "d", "-")), `5 =1{-:"1",0:"{",A:"}",_:",",a:":",b:"=",c:"+",d:"-"}`},
		{on(api.MaxText, op(keep, api.MaxText, "", "b", "1")), `20000 =20000{b:"1"}`}, {on(api.MaxText, op(insert, 0, "a"), op(remove, api.MaxText, "")), `20000 +"a" -20000`}, {on(0, op(insert, 0, ` =1 -2{a:""} `)), `0 +" =1 -2{a:\"\"} "`},
	}
}

func TestP42Print(t *testing.T) {
	for i, x := range texts() {
		if s, e := spell.Print(x.c); s != x.s || e != api.OK {
			t.Error(i, s, e)
		}
	}
	for i, x := range []struct {
		c    api.Change
		want string
	}{
		{on(5, op(keep, 1, ""), op(keep, 1, ""), op(remove, 1, ""), op(insert, 0, "x"), op(remove, 1, ""), op(keep, 1, "")), `5 =2 +"x" -2`}, {on(5, op(keep, 5, "")), `5`}, {on(5, op(remove, 1, ""), op(insert, 0, "a"), op(insert, 0, "\n")), `5 +"a\n" -1`},
		{api.Change{From: 5, Ops: []api.Op{}}, `5`}, {on(5, api.Op{Kind: keep, N: 1, Attrs: []api.Attr{}}, op(remove, 1, "")), `5 =1 -1`},
	} {
		if s, e := spell.Print(x.c); s != x.want || e != api.OK {
			t.Error(i, s, e)
		}
	}
	for i, x := range refusals() {
		if s, e := spell.Print(x.c); s != "" || e != x.want {
			t.Error(i, cut(s), e)
		}
	}
	for _, c := range all() {
		n, _ := change.Normal(c)
		if s, e := spell.Print(c); s != printed(n) || e != api.OK {
			t.Fatal(show(c), s, e)
		}
	}
}

// refusal is a changeset that may not be, and why.
type refusal struct {
	c    api.Change
	want api.Errno
}

func refusals() []refusal {
	return []refusal{
		{on(-1), api.ErrLength}, {on(api.MaxText + 1), api.ErrLength}, {on(math.MinInt), api.ErrLength}, {api.Change{From: 5, Ops: make([]api.Op, api.MaxOps+1)}, api.ErrLong}, {on(5, op(keep, 0, "")), api.ErrOps}, {on(5, op(remove, -1, "")), api.ErrOps}, {on(5, op(0, 1, "")), api.ErrOps}, {on(5, op(4, 1, "")), api.ErrOps},
		{on(5, op(insert, 0, "")), api.ErrOps}, {on(5, op(insert, 1, "a")), api.ErrOps}, {on(5, op(keep, 1, "a")), api.ErrOps}, {on(5, op(remove, 1, "", "b", "1")), api.ErrOps}, {on(5, op(insert, 0, "\xff")), api.ErrText}, {on(5, op(insert, 0, strings.Repeat("a", api.MaxText+1))), api.ErrText}, {on(5, op(insert, 0, "a", "b", "")), api.ErrAttr},
		{on(5, op(keep, 1, "", "b", "\n")), api.ErrAttr}, {on(5, op(keep, 1, "", "b", "1", "a", "1")), api.ErrAttr}, {on(5, op(keep, 1, "", "", "1")), api.ErrAttr}, {on(5, op(keep, 6, "")), api.ErrLength}, {on(5, op(keep, 5, ""), op(remove, 1, "")), api.ErrLength}, {on(api.MaxText, op(insert, 0, "a")), api.ErrBig},
	}
}

// sized is a changeset in normal form whose text has so many bytes.
func sized(n int) api.Change {
	c := on(10000)
	for i := range 1240 {
		c.Ops = append(c.Ops, op(keep, 1, "", "a", strings.Repeat("~", 63)+strconv.Itoa(i%2), "b", strings.Repeat(`"`, 32), "c", strings.Repeat(" ", 64)))
	}
	left := n - len(printed(c)) - len(` +""`)
	c.Ops = append(c.Ops, op(insert, 0, strings.Repeat("x", left)))
	return c
}

func TestP42PrintUpToTheLimit(t *testing.T) {
	for n := api.MaxSpell - 3; n <= api.MaxSpell+3; n++ {
		want, f := "", api.ErrBig
		if c := sized(n); n <= api.MaxSpell {
			want, f = printed(c), api.OK
		}
		if s, e := spell.Print(sized(n)); s != want || e != f {
			t.Error(n, len(s), e)
		}
	}
	// What is far longer than its normal form's text is not too long.
	c := on(api.MaxText)
	for range api.MaxOps {
		c.Ops = append(c.Ops, op(keep, 1, "", "a", strings.Repeat("~", 64), "b", strings.Repeat("~", 64), "c", strings.Repeat("~", 64)))
	}
	n, _ := change.Normal(c)
	if s, e := spell.Print(c); len(n.Ops) != 1 || len(printed(c)) <= api.MaxSpell || s != printed(n) || e != api.OK {
		t.Error(len(n.Ops), len(s), e)
	}
	// The error of what may not be comes ahead of its length.
	c = sized(api.MaxSpell + 1)
	c.Ops = append(c.Ops, op(remove, 0, ""))
	if s, e := spell.Print(c); s != "" || e != api.ErrOps {
		t.Error(len(s), e)
	}
}

func TestP43Parse(t *testing.T) {
	for i, x := range texts() {
		if c, f := spell.Parse(x.s); !same(c, x.c) || f != fine {
			t.Error(i, show(c), f)
		}
	}
	for i, x := range []struct {
		s string
		f api.Fault
	}{
		{`5 =2 `, wrong(5)}, {`5=2`, wrong(1)}, {`05`, wrong(0)}, {`5 =0`, whole(api.ErrOps)}, {`5 =9`, whole(api.ErrLength)}, {`5 =2`, whole(api.ErrSpell)}, {`1 +"\q"`, wrong(5)}, {`1 +"\x0A"`, wrong(7)}, {`1 +"a`, wrong(5)}, {`1 +"a"{}`, wrong(7)},
		// numbers
		{``, wrong(0)}, {` `, wrong(0)}, {`-1`, wrong(0)}, {`+5`, wrong(0)}, {`x`, wrong(0)}, {`00`, wrong(0)}, {`00x`, wrong(0)}, {`5 =`, wrong(3)}, {`5 -`, wrong(3)}, {`5 =x`, wrong(3)}, {`5 =-1`, wrong(3)}, {`5 = 1`, wrong(3)}, {`5 =01`, wrong(3)}, {`5 -00`, wrong(3)}, {`5 =01x`, wrong(3)}, {"5 =\u0661", wrong(3)},
		{`123456789012345678`, whole(api.ErrLength)}, {`999999999999999999`, whole(api.ErrLength)}, {`1234567890123456789`, wrong(0)}, {`9999999999999999999999`, wrong(0)}, {`000000000000000000000`, wrong(0)}, {`5 -123456789012345678`, whole(api.ErrLength)}, {`5 -1234567890123456789`, wrong(3)}, {`5 -1234567890123456789x`, wrong(3)}, {strings.Repeat("1", 5000), wrong(0)},
		// blanks and kinds
		{`5x`, wrong(1)}, {"5\n", wrong(1)}, {"5\t=1", wrong(1)}, {`5 `, wrong(2)}, {`5  =1`, wrong(2)}, {`5 x`, wrong(2)}, {`5 "a"`, wrong(2)}, {`5 =1-1`, wrong(4)}, {`5 =1 -1x`, wrong(7)}, {`5 -1"a"`, wrong(4)}, {`5 +"a"x`, wrong(6)}, {`5 +"a" `, wrong(7)}, {`5 +"a"+"b"`, wrong(6)}, {`5 =1{b:"1"}x`, wrong(11)}, {`5 =1{b:"1"}{c:"1"}`, wrong(11)}, {`5 =1 {b:"1"}`, wrong(5)}, {"5 -1\n", wrong(4)}, {"5\x00", wrong(1)}, {"5 =1\xff", wrong(4)},
		// a delete has no attributes
		{`5 -1{b:"1"}`, wrong(4)}, {`5 -1{`, wrong(4)},
		// texts in quotes
		{`5 +`, wrong(3)}, {`5 +a`, wrong(3)}, {`5 +5`, wrong(3)}, {`5 +"`, wrong(4)}, {"5 +\"a\nb\"", wrong(5)}, {"5 +\"\x00\"", wrong(4)}, {"5 +\"\x1f\"", wrong(4)}, {"5 +\"\x7f\"", wrong(4)}, {`5 +"\`, wrong(5)}, {`5 +"\a"`, wrong(5)}, {`5 +"\x"`, wrong(6)}, {`5 +"\x1"`, wrong(7)}, {`5 +"\x1`, wrong(7)}, {`5 +"\xg1"`, wrong(6)}, {`5 +"\x1F"`, wrong(7)}, {`5 +"\x0a"`, wrong(4)}, {`5 +"\x20"`, wrong(4)}, {`5 +"a\x80"`, wrong(5)},
		// attributes
		{`5 =1{`, wrong(5)}, {`5 =1{}`, wrong(5)}, {`5 =1{b`, wrong(6)}, {`5 =1{b}`, wrong(6)}, {`5 =1{b=`, wrong(6)}, {`5 =1{b:`, wrong(7)}, {`5 =1{b:1}`, wrong(7)}, {`5 =1{b:"`, wrong(8)}, {`5 =1{b:"1"`, wrong(10)}, {`5 =1{b:"1" }`, wrong(10)}, {`5 =1{b:"1",`, wrong(11)}, {`5 =1{b:"1",}`, wrong(11)}, {`5 =1{b:"1",,`, wrong(11)}, {`5 =1{b:"1", c:"1"}`, wrong(11)}, {`5 =1{ b:"1"}`, wrong(5)}, {`5 =1{,b:"1"}`, wrong(5)}, {`5 =1{:"1"}`, wrong(5)}, {`5 =1{b :"1"}`, wrong(6)}, {"5 =1{\u00e9:\"1\"}", wrong(5)}, {"5 =1{b\u00e9:\"1\"}", wrong(6)}, {`5 =1{b:"\q"}`, wrong(9)}, {`5 =1{b:"1";c:"1"}`, wrong(10)}, {`5 =1{.:"1"}`, wrong(5)}, {`5 +"a"{"b":"1"}`, wrong(7)},
		// what is read, but may not be
		{`20001`, whole(api.ErrLength)}, {`5 -0`, whole(api.ErrOps)}, {`5 +""`, whole(api.ErrOps)}, {"5 +\"\xff\"", whole(api.ErrText)}, {"5 +\"\xed\xa0\x80\"", whole(api.ErrText)}, {`5 +"a"{b:""}`, whole(api.ErrAttr)}, {`5 =1{b:"\n"}`, whole(api.ErrAttr)}, {"5 =1{b:\"\u00e9\"}", whole(api.ErrAttr)}, {`5 =1{b:"1",a:"1"}`, whole(api.ErrAttr)}, {`5 =1{b:"1",b:"1"}`, whole(api.ErrAttr)},
		{`5 =1{` + strings.Repeat("k", api.MaxAttrKey+1) + `:"1"}`, whole(api.ErrAttr)}, {`5 =1{b:"` + strings.Repeat("v", api.MaxAttrText+1) + `"}`, whole(api.ErrAttr)}, {`5 =1{a:"",b:"",c:"",d:"",e:"",f:"",g:"",h:"",i:""}`, whole(api.ErrAttr)}, {`5 =5 -1`, whole(api.ErrLength)}, {`20000 +"a"`, whole(api.ErrBig)}, {`5` + strings.Repeat(" -0", api.MaxOps+1), whole(api.ErrLong)}, {`20001` + strings.Repeat(" -0", api.MaxOps+1), whole(api.ErrLength)}, {`0 +"` + strings.Repeat("a", api.MaxText+1) + `"`, whole(api.ErrText)},
		// what may be, but is not normal
		{`5 =1 =1 -1`, whole(api.ErrSpell)}, {`5 -1 -1`, whole(api.ErrSpell)}, {`5 -1 +"a"`, whole(api.ErrSpell)}, {`5 +"a" +"b"`, whole(api.ErrSpell)}, {`5 -1 =4`, whole(api.ErrSpell)}, {`5 =1{b:"1"} =1{b:"1"}`, whole(api.ErrSpell)}, {`5 +"a" -1 +"b"`, whole(api.ErrSpell)}, {`20000 =1`, whole(api.ErrSpell)},
		// the first thing that cannot stand there is told, not the worst, and ahead of what may not be
		{`05 =00`, wrong(0)}, {`5 =0 `, wrong(5)}, {`5 +"\q" +"\x0A"`, wrong(5)}, {"99999 +\"\xff\"{b:\"\x00\"}", wrong(14)},
	} {
		if c, f := spell.Parse(x.s); !same(c, api.Change{}) || f != x.f {
			t.Errorf("%d: %q: %s %v", i, cut(x.s), show(c), f)
		}
	}
}

func TestP43ParseUpToTheLimit(t *testing.T) {
	c := sized(api.MaxSpell)
	if got, f := spell.Parse(printed(c)); !same(got, c) || f != fine {
		t.Error(show(got), f)
	}
	for i, x := range []struct {
		s string
		f api.Fault
	}{
		{printed(sized(api.MaxSpell + 1)), whole(api.ErrLong)}, {strings.Repeat("x", api.MaxSpell+1), whole(api.ErrLong)}, {strings.Repeat("x", api.MaxSpell), wrong(0)}, {strings.Repeat("1", api.MaxSpell), wrong(0)},
		{"5" + strings.Repeat(" ", api.MaxSpell), whole(api.ErrLong)}, {"5" + strings.Repeat(" ", api.MaxSpell-1), wrong(2)}, {`0 +"` + strings.Repeat("a", api.MaxSpell-4), wrong(api.MaxSpell)}, {`0 =1{` + strings.Repeat("k", api.MaxSpell-5), wrong(api.MaxSpell)}, {`0` + strings.Repeat(" -1", api.MaxSpell/3), whole(api.ErrLong)},
		{`5 =1{` + strings.Repeat(`a:"",`, 52000) + `}`, wrong(5 + 5*52000)},
	} {
		if c, f := spell.Parse(x.s); !same(c, api.Change{}) || f != x.f {
			t.Error(i, show(c), f)
		}
	}
}

// mark is where a model stands in a changeset's text: what may come next.
type mark int

const (
	wantFrom mark = iota
	wantN
	wantKind
	wantText
	wantValue
	inText
	inValue
	wantKey
	wantColon
	wantBrace   // a blank, or the end, or attributes
	wantBlank   // a blank, or the end
	wantAnother // a comma, or the end of attributes
)

// model tells where a text goes wrong, mark by mark, or -1; it makes no changeset of it.
func model(s string) int {
	const digits, hex = "0123456789", "0123456789abcdef"
	const keys = "ABCDEFGHIJKLMNOPQRSTUVWXYZabcdefghijklmnopqrstuvwxyz0123456789-_"
	at, now, kind := 0, wantFrom, byte(0)
	span := func(set string) int { return len(s[at:]) - len(strings.TrimLeft(s[at:], set)) }
	next := func(set string) bool { return at < len(s) && strings.IndexByte(set, s[at]) >= 0 }
	for {
		if at == len(s) && (now == wantBlank || now == wantBrace) {
			return -1
		}
		step := 1
		ok := true
		switch now {
		case wantFrom, wantN:
			step = span(digits)
			ok = step > 0 && step <= 18 && (step == 1 || s[at] != '0')
			if now == wantFrom || kind == '-' {
				now = wantBlank
			} else {
				now = wantBrace
			}
		case wantKind:
			if ok = next("=-+"); ok {
				kind, now = s[at], wantN
				if kind == '+' {
					now = wantText
				}
			}
		case wantText:
			ok, now = next(`"`), inText
		case wantValue:
			ok, now = next(`"`), inValue
		case inText, inValue:
			switch {
			case next(`"`) && now == inText:
				now = wantBrace
			case next(`"`):
				now = wantAnother
			case next(`\`):
				rest := s[at+1:]
				switch {
				case rest == "" || strings.IndexByte(`"\nx`, rest[0]) < 0:
					return at + 1
				case rest[0] != 'x':
					step = 2
				case len(rest) < 2 || strings.IndexByte(hex, rest[1]) < 0:
					return at + 2
				case len(rest) < 3 || strings.IndexByte(hex, rest[2]) < 0:
					return at + 3
				default:
					b, _ := strconv.ParseUint(rest[1:3], 16, 8)
					step, ok = 4, b < 32 && b != 10 || b == 127
				}
			default:
				ok = at < len(s) && s[at] >= 32 && s[at] != 127
			}
		case wantKey:
			step = span(keys)
			ok, now = step > 0, wantColon
		case wantColon:
			ok, now = next(":"), wantValue
		case wantBrace:
			if next("{") {
				now = wantKey
			} else {
				ok, now = next(" "), wantKind
			}
		case wantBlank:
			ok, now = next(" "), wantKind
		case wantAnother:
			if next("}") {
				now = wantBlank
			} else {
				ok, now = next(","), wantKey
			}
		}
		if !ok {
			return at
		}
		at += step
	}
}

// tryParse holds Parse against the model, and what it answers against its text.
func tryParse(t *testing.T, s string) {
	c, f := spell.Parse(s)
	if at := model(s); at >= 0 {
		if f != wrong(at) || !same(c, api.Change{}) {
			t.Fatalf("%q: %s %v, not at %d", s, show(c), f, at)
		}
		return
	}
	if f != fine {
		if f.At != -1 || f.Code == api.OK || !same(c, api.Change{}) {
			t.Fatalf("%q: %s %v", s, show(c), f)
		}
		return
	}
	if p, e := spell.Print(c); printed(c) != s || p != s || e != api.OK || !change.Is(c) {
		t.Fatalf("%q: %s %s %v", s, show(c), p, e)
	}
}

func TestP43WhereItGoesWrong(t *testing.T) {
	// All texts of a few bytes that each mean something.
	var grow func(s string, more int)
	grow = func(s string, more int) {
		tryParse(t, s)
		if more > 0 {
			for _, b := range []byte("01 =-+\"\\x{b:,}") {
				grow(s+string([]byte{b}), more-1)
			}
		}
	}
	grow("", 4)
	for _, s := range []string{`1 `, `1 +"`, `1 +"\`, `1 +"\x`, `1 +"\x0`, `1 +"a"{`, `1 =1{b:"`, `1 =1{b:""`, `1 -1`} {
		grow(s, 3)
	}
}

func TestP43WhereItGoesWrongByOneByte(t *testing.T) {
	for _, x := range texts() {
		s := x.s
		for at := 0; at <= len(s); at++ {
			tryParse(t, s[:at])
			for b := range 256 {
				one := string([]byte{byte(b)})
				tryParse(t, s[:at]+one+s[at:])
				if at < len(s) {
					tryParse(t, s[:at]+one+s[at+1:])
				}
			}
			if at < len(s) {
				tryParse(t, s[:at]+s[at+1:])
				tryParse(t, s[:at]+s[at:at+1]+s[at:])
			}
		}
	}
}

func TestP43Refused(t *testing.T) {
	// What may not be is told as change.Right tells it, where a text can say it.
	many := 0
	for _, x := range refusals() {
		s := printed(x.c)
		if model(s) >= 0 || !said(x.c) {
			continue
		}
		if c, f := spell.Parse(s); !same(c, api.Change{}) || f != whole(x.want) {
			t.Error(cut(s), show(c), f)
		}
		many++
	}
	if many < 10 {
		t.Error(many)
	}
	for _, c := range all() {
		want, fault := c, fine
		if !change.Is(c) {
			want, fault = api.Change{}, whole(api.ErrSpell)
		}
		if got, f := spell.Parse(printed(c)); !same(got, want) || f != fault {
			t.Fatal(show(c), show(got), f)
		}
	}
}

// said tells whether a text has a place for all that the operations hold.
func said(c api.Change) bool {
	return !slices.ContainsFunc(c.Ops, func(o api.Op) bool {
		return o.Kind < keep || o.Kind > remove || o.Kind == insert && o.N != 0 || o.Kind != insert && o.Text != ""
	})
}

// all are the changesets on 4 runes of up to 4 operations of a few, that may be.
func all() []api.Change {
	pieces := []api.Op{
		op(keep, 1, ""), op(keep, 2, ""), op(keep, 1, "", "b", ""), op(keep, 1, "", "b", "1", "c", `"`),
		op(insert, 0, "a"), op(insert, 0, "\u00e9\n\\"), op(insert, 0, "\x7f", "b", "1"), op(remove, 1, ""), op(remove, 2, ""),
	}
	var out []api.Change
	var grow func(l []api.Op, left int)
	grow = func(l []api.Op, left int) {
		out = append(out, api.Change{From: 4, Ops: slices.Clone(l)})
		if len(l) == 4 {
			return
		}
		for _, o := range pieces {
			if o.N <= left {
				grow(append(l, o), left-o.N)
			}
		}
	}
	grow(nil, 4)
	return out
}

func TestP45ThereAndBack(t *testing.T) {
	texts := map[string]api.Change{}
	for _, c := range all() {
		n, _ := change.Normal(c)
		s, e := spell.Print(c)
		back, f := spell.Parse(s)
		if e != api.OK || f != fine || !same(back, n) {
			t.Fatal(show(c), s, show(back), e, f)
		}
		if again, e := spell.Print(back); again != s || e != api.OK {
			t.Fatal(s, again, e)
		}
		if was, ok := texts[s]; ok && !same(was, n) {
			t.Fatal(s, show(was), show(n))
		}
		texts[s] = n
	}
	if len(texts) < 1000 {
		t.Error(len(texts))
	}
	// The most runes, the most operations, the most digits there may be.
	most := on(api.MaxText)
	for i := range api.MaxOps {
		most.Ops = append(most.Ops, op(keep, 1+i%10, "", "b", strconv.Itoa(i%2+1)))
	}
	for i, c := range []api.Change{most, on(0, op(insert, 0, strings.Repeat("\U0010ffff", api.MaxText))), on(0, op(insert, 0, strings.Repeat("\x00", api.MaxText))), on(0, op(insert, 0, strings.Repeat("\"\\\n\x7f", api.MaxText/4)))} {
		s, e := spell.Print(c)
		if back, f := spell.Parse(s); e != api.OK || f != fine || !same(back, c) {
			t.Error(i, len(s), e, show(back), f)
		}
	}
}

func TestP45QuotesThereAndBack(t *testing.T) {
	var ascii []byte
	for b := range byte(128) {
		ascii = append(ascii, b)
	}
	for _, s := range []string{"", "a", string(ascii), "\u00e9\ufffd\U0010ffff", `\x0a`, `\\`, `"a"`, "\u2028\n\u0085", strings.Repeat("\n\u00e9", 50000)} {
		q, e := spell.Quote(s)
		text, end, f := spell.Read(q, 0)
		if e != api.OK || text != s || end != len(q) || f != fine {
			t.Error(cut(s), e, cut(text), end, f)
		}
	}
	for _, q := range []string{`"a"`, `"\n\x00\x7f\"\\"`, "\"\u00e9\""} {
		s, _, f := spell.Read(q, 0)
		if again, e := spell.Quote(s); again != q || f != fine || e != api.OK || !utf8.ValidString(s) {
			t.Error(q, s, again, f, e)
		}
	}
}

// span is a piece of memory.
type span struct{ from, to uintptr }

// listSpan is a list's memory, its spare room among it.
func listSpan[T any](l []T) span {
	at := uintptr(unsafe.Pointer(unsafe.SliceData(l)))
	var one T
	return span{at, at + uintptr(cap(l))*unsafe.Sizeof(one)}
}

// textSpan is a text's memory.
func textSpan(s string) span {
	at := uintptr(unsafe.Pointer(unsafe.StringData(s)))
	return span{at, at + uintptr(len(s))}
}

// spans are all memory of a changeset, piece by piece.
func spans(c api.Change) []span {
	l := []span{listSpan(c.Ops)}
	for _, o := range c.Ops {
		l = append(l, textSpan(o.Text), listSpan(o.Attrs))
		for _, a := range o.Attrs {
			l = append(l, textSpan(a.Key), textSpan(a.Value))
		}
	}
	return l
}

// meet tells whether two pieces of memory have a byte in common.
func meet(l []span) bool {
	l = slices.DeleteFunc(slices.Clone(l), func(x span) bool { return x.from == x.to })
	slices.SortFunc(l, func(x, y span) int { return int(x.from) - int(y.from) })
	for i := 1; i < len(l); i++ {
		if l[i].from < l[i-1].to {
			return true
		}
	}
	return false
}

func TestP44NewMemory(t *testing.T) {
	for i, x := range texts() {
		s := strings.Clone(x.s)
		a, _ := spell.Parse(s)
		b, _ := spell.Parse(s)
		if meet(slices.Concat(spans(a), spans(b), []span{textSpan(s)})) {
			t.Error("Parse", i)
		}
		p, _ := spell.Print(a)
		q, _ := spell.Print(a)
		if meet(append(spans(a), textSpan(p), textSpan(q))) {
			t.Error("Print", i)
		}
	}
	for i, s := range []string{"a", "abc", strings.Repeat("abc", 100), "a\n"} {
		in := strings.Clone(s)
		p, _ := spell.Quote(in)
		q, _ := spell.Quote(in)
		x, _, _ := spell.Read(p, 0)
		y, _, _ := spell.Read(p, 0)
		if meet([]span{textSpan(in), textSpan(p), textSpan(q), textSpan(x), textSpan(y)}) {
			t.Error("Quote, Read", i)
		}
	}
	// Attributes of its own each, where two operations have the same.
	c, _ := spell.Parse(`2 =1{b:"1"} +"a"{b:"1"} =1{b:"1"}`)
	if len(c.Ops) != 3 || meet(spans(c)) {
		t.Error(show(c))
	}
}

func TestP44ChangesNothing(t *testing.T) {
	spare := api.Attr{Key: "spare", Value: "room"}
	for _, x := range texts() {
		ops := slices.Repeat([]api.Op{{Kind: 9, N: 9, Text: "spare"}}, len(x.c.Ops)+5)
		for i, o := range x.c.Ops {
			l := append(slices.Clone(o.Attrs), slices.Repeat([]api.Attr{spare}, 5)...)
			ops[i] = api.Op{Kind: o.Kind, N: o.N, Text: o.Text, Attrs: l[:len(o.Attrs)]}
		}
		c := api.Change{From: x.c.From, Ops: ops[:len(x.c.Ops)]}
		spell.Print(c)
		if !same(c, x.c) || ops[len(ops)-1].Kind != 9 || ops[len(c.Ops)].Text != "spare" {
			t.Error(show(c))
		}
		for _, o := range c.Ops {
			if slices.ContainsFunc(o.Attrs[len(o.Attrs):len(o.Attrs)+5], func(a api.Attr) bool { return a != spare }) {
				t.Error(show(c))
			}
		}
	}
}
