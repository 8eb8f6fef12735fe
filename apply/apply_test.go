package apply_test

import (
	"math"
	"slices"
	"strings"
	"testing"

	"blotter/api"
	"blotter/apply"
	"blotter/change"
)

// run is a document of one run.
func run(text, l string) []api.Run { return []api.Run{{Text: text, Attrs: row(l)}} }

// rightDocs are documents that may be, at the limits.
func rightDocs() [][]api.Run {
	half := long(api.MaxText / 2)
	return [][]api.Run{
		nil, {}, doc("a"), doc("ab{b=1} cd"), doc("a b{b=1} c"), doc("a{b=1} b{b=2}"), doc("a{b=1} b{b=1,i=1}"), doc("a{b=1} b{i=1}"), doc("é\U0001f600"), run("\n\x00 \u007f", ""), run("\uFFFD", ""), run("\ud7ff\ue000\U0010ffff", ""),
		run(long(api.MaxText), ""), slices.Concat(run(half, ""), run(half, "b=1")), striped(api.MaxRuns), run("a", eight), {{Text: "a", Attrs: []api.Attr{}}},
		{{Text: "a", Attrs: []api.Attr{{Key: strings.Repeat("k", api.MaxAttrKey), Value: strings.Repeat("v", api.MaxAttrText)}}}},
	}
}

// wrongDocs are those that may not be.
func wrongDocs() [][]api.Run {
	half := long(api.MaxText / 2)
	l := [][]api.Run{
		run("", ""), run("", "b=1"), slices.Concat(doc("a"), run("", "b=1")), slices.Concat(run("", "b=1"), doc("a")), {{}}, {{}, {}},
		run("\xff", ""), run("a\x80", ""), run("\xed\xa0\x80", ""), run("\xc0\x80", ""), run("\xf4\x90\x80\x80", ""), slices.Concat(doc("a"), run("\xff", "b=1")), slices.Concat(run("\xc3", ""), run("\xa9", "b=1")),
		run(long(api.MaxText+1), ""), slices.Concat(run(half, ""), run(half+"a", "b=1")), slices.Concat(run(half, ""), run(half, "b=1"), run("a", "")), striped(api.MaxRuns + 1), striped(3 * api.MaxRuns),
		doc("a b"), doc("a{b=1} b{b=1}"), doc("a b{b=1} c{b=1}"), doc("a{b=1,i=1} b{b=1,i=1}"), {{Text: "a"}, {Text: "b", Attrs: []api.Attr{}}},
		doc("a{b=}"), doc("a{i=1,b=1}"), doc("a{b=1,b=1}"), doc("a{b=1,b=2}"), run("a", eight+",i=1"), doc("a b{b=}"), {{Text: "a", Attrs: []api.Attr{{}}}}, {{Text: "a", Attrs: []api.Attr{{Key: "a b", Value: "1"}}}}, {{Text: "a", Attrs: []api.Attr{{Key: "b", Value: "\n"}}}},
	}
	for _, a := range []api.Attr{{Key: strings.Repeat("k", api.MaxAttrKey+1), Value: "1"}, {Key: "b", Value: strings.Repeat("v", api.MaxAttrText+1)}} {
		l = append(l, []api.Run{{Text: "a", Attrs: []api.Attr{a}}})
	}
	return l
}

func TestP51Right(t *testing.T) {
	for i, d := range rightDocs() {
		if e := apply.Right(d); e != api.OK {
			t.Error(i, show(d), e)
		}
	}
	for i, d := range wrongDocs() {
		if e := apply.Right(d); e != api.ErrRuns {
			t.Error(i, show(d), e)
		}
	}
}

// TestErrRunsAheadOfAll: of a document that is none each call tells so, whatever else is wrong, and nothing more.
func TestErrRunsAheadOfAll(t *testing.T) {
	good := doc("a")
	for i, d := range wrongDocs() {
		s, e1 := apply.Plain(d)
		n, e2 := apply.Length(d)
		if s != "" || n != 0 || e1 != api.ErrRuns || e2 != api.ErrRuns {
			t.Error(i, show(s), n, e1, e2)
		}
		for _, c := range []api.Change{on(0), on(len(split(d))), on(-1), of(1, "-0"), of(5, "=6"), of(1, "=1{a=1,b=1,c=1,d=1,e=1,f=1,g=1,h=1}")} {
			now, e1 := apply.Apply(d, c)
			back, e2 := apply.Inverse(d, c)
			if now != nil || !none(back) || e1 != api.ErrRuns || e2 != api.ErrRuns {
				t.Error(i, show(now), show(back), e1, e2)
			}
		}
		for _, x := range [][2][]api.Run{{d, good}, {good, d}, {d, nil}, {nil, d}, {d, d}, {d, wrongDocs()[0]}} {
			if c, e := apply.Between(x[0], x[1]); !none(c) || e != api.ErrRuns {
				t.Error(i, show(c), e)
			}
		}
		for _, x := range [][2]int{{0, 0}, {0, 1}, {-1, 0}, {1, 0}, {0, math.MaxInt}} {
			if part, e := apply.Slice(d, x[0], x[1]); part != nil || e != api.ErrRuns {
				t.Error(i, show(part), e)
			}
		}
		if c, e := apply.As(d); !none(c) || e != api.ErrRuns {
			t.Error(i, show(c), e)
		}
	}
}

func TestP51Make(t *testing.T) {
	if d, e := apply.Make(""); len(d) != 0 || e != api.OK {
		t.Error(show(d), e)
	}
	for _, s := range []string{"a", "abcd", "é\U0001f600", "\n\x00", "\uFFFD", "a b", long(api.MaxText)} {
		if d, e := apply.Make(s); !sameDoc(d, run(s, "")) || e != api.OK {
			t.Error(show(s), show(d), e)
		}
	}
	for _, s := range []string{"\xff", "a\x80", "\xed\xa0\x80", "\xc3", "\xc0\x80", "\xf4\x90\x80\x80", long(api.MaxText + 1), strings.Repeat("a", api.MaxText) + "\xff"} {
		if d, e := apply.Make(s); d != nil || e != api.ErrText {
			t.Error(show(s), show(d), e)
		}
	}
}

func TestP51PlainAndLength(t *testing.T) {
	if s, e := apply.Plain(doc("ab{b=1} cd")); s != "abcd" || e != api.OK {
		t.Error(s, e)
	}
	if n, e := apply.Length(doc("ab{b=1} cd")); n != 4 || e != api.OK {
		t.Error(n, e)
	}
	for _, d := range slices.Concat(rightDocs(), all(3)) {
		want, many := "", 0
		for _, x := range d {
			want += x.Text
			many += len([]rune(x.Text))
		}
		s, e1 := apply.Plain(d)
		n, e2 := apply.Length(d)
		if s != want || n != many || e1 != api.OK || e2 != api.OK {
			t.Error(show(d), show(s), n, e1, e2)
		}
	}
}

func TestP52Examples(t *testing.T) {
	for i, x := range []struct{ d, c, want string }{
		{"ab{b=1} cd", "=1 +x -1 =1{i=1}", "a{b=1} x c{i=1} d"}, {"ab{b=1} cd", "", "ab{b=1} cd"}, {"ab{b=1} cd", "=4", "ab{b=1} cd"}, {"ab{b=1} cd", "=2{b=}", "abcd"}, {"ab{b=1} cd", "=2 =2{b=1}", "abcd{b=1}"}, {"ab{b=1} cd", "=4{b=2}", "abcd{b=2}"},
		{"ab{b=1} cd", "=4{b=1}", "abcd{b=1}"}, {"ab{b=1} cd", "-4", ""}, {"ab{b=1} cd", "-2", "cd"}, {"ab{b=1} cd", "=2 -2", "ab{b=1}"}, {"ab{b=1} cd", "=1 -2", "a{b=1} d"}, {"ab{b=1} cd", "=2 +x", "ab{b=1} xcd"}, {"ab{b=1} cd", "=2 +x{b=1}", "abx{b=1} cd"},
		{"ab{b=1} cd", "=4 +x{i=1}", "ab{b=1} cd x{i=1}"}, {"ab{b=1} cd", "+x", "x ab{b=1} cd"}, {"ab{b=1} cd", "=1 +x{b=1}", "axb{b=1} cd"}, {"a b{b=1} cd", "=1 -1", "acd"}, {"a b{b=1} cd", "=1 =1{b=}", "abcd"}, {"ab{b=1} cd", "=3{a=,b=,z=1}", "abc{z=1} d"},
		{"ab{b=1} cd", "-1 +x -1 +y =1 +z -1", "xycz"}, {"ab{b=1} cd", "=1 =1 =1 =1", "ab{b=1} cd"}, {"éüé{b=1} \U0001f600d", "=1 -1 =2{i=1}", "é{b=1} é{b=1,i=1} \U0001f600{i=1} d"},
	} {
		if d, e := apply.Apply(doc(x.d), of(len(split(doc(x.d))), x.c)); !sameDoc(d, doc(x.want)) || e != api.OK {
			t.Error(i, show(d), e)
		}
	}
	if d, e := apply.Apply(nil, of(0, "+a{b=1} +b")); !sameDoc(d, doc("a{b=1} b")) || e != api.OK {
		t.Error(show(d), e)
	}
	if d, e := apply.Apply(nil, on(0)); len(d) != 0 || e != api.OK {
		t.Error(show(d), e)
	}
}

// refusal is a document and a changeset that do not go together, and why.
type refusal struct {
	d    []api.Run
	c    api.Change
	want api.Errno
}

// wrongChanges are changesets that may not be, or not on two runes.
func wrongChanges() []refusal {
	d := run("ab", eight)
	full := on(2, op(insert, 0, long(api.MaxText-1), nil))
	many := on(2, slices.Repeat([]api.Op{op(insert, 0, "a", nil)}, api.MaxOps+1)...)
	l := []refusal{{d, full, api.ErrBig}, {d, many, api.ErrLong}, {d, on(2, op(insert, 0, "\xff", nil)), api.ErrText}, {d, on(math.MaxInt), api.ErrLength}, {d, on(math.MinInt), api.ErrLength}}
	for _, x := range []struct {
		from int
		s    string
		want api.Errno
	}{
		{-1, "", api.ErrLength}, {api.MaxText + 1, "", api.ErrLength}, {2, "=0", api.ErrOps}, {2, "-0", api.ErrOps}, {2, "=3", api.ErrLength}, {2, "-3", api.ErrLength}, {2, "-1{b=}", api.ErrOps}, {2, "+a{b=}", api.ErrAttr}, {2, "=1{i=1,b=1}", api.ErrAttr},
		{3, "=0", api.ErrOps}, {3, "+a{b=}", api.ErrAttr}, {3, "", api.ErrLength}, {1, "", api.ErrLength}, {0, "", api.ErrLength}, {1, "=1", api.ErrLength}, {3, "-3", api.ErrLength}, {0, "+a", api.ErrLength}, {2, "=1 +a{b=} =9223372036854775807", api.ErrAttr},
		{2, "=1{i=1} -0", api.ErrOps}, {2, "=1{i=1} =2", api.ErrLength}, {3, "=1{i=1}", api.ErrLength}, {1, "=1{i=1}", api.ErrLength},
	} {
		l = append(l, refusal{d, of(x.from, x.s), x.want})
	}
	return append(l, refusal{nil, of(1, ""), api.ErrLength}, refusal{run(long(api.MaxText), ""), of(api.MaxText-1, "+a"), api.ErrLength}, refusal{run(long(api.MaxText), ""), of(api.MaxText, "+a"), api.ErrBig})
}

// tooMuch are changesets that may be, but make cells with too many attributes, or too many runs.
func tooMuch() []refusal {
	var l []refusal
	for _, x := range []struct{ d, c string }{
		{"a{" + eight + "}", "=1{i=1}"}, {"a{" + eight + "}", "=1{0=1}"}, {"a b{" + eight + "}", "=2{i=1}"}, {"a b{" + eight + "} c", "=1 =1{b=2,i=1}"}, {"a{b=1}", "=1{c=1,d=1,e=1,f=1,g=1,h=1,i=1,j=1}"}, {"a{" + eight + "} b", "=1{i=1} +x"},
		{"a{" + eight + "}", "=1{a=,i=1,j=1}"}, {"a b{" + eight + "}", "-1 =1{i=1}"},
	} {
		d := doc(x.d)
		l = append(l, refusal{d, of(len(split(d)), x.c), api.ErrBig})
	}
	most := striped(api.MaxRuns)
	for _, s := range []string{"+x{b=2}", "=2000 +x", "=1 +x{i=1}", "+x{b=1}", "=1000 +x{i=1}", "+x{b=1} +y"} {
		l = append(l, refusal{most, of(api.MaxRuns, s), api.ErrLong})
	}
	wide := slices.Concat(run("zz", "z=1"), most[:api.MaxRuns-1])
	l = append(l, refusal{wide, of(api.MaxRuns+1, "=1{i=1}"), api.ErrLong}, refusal{wide, of(api.MaxRuns+1, "=1 +x"), api.ErrLong})
	// Both: too many attributes are told, where they come last, too.
	last := slices.Concat(most[:api.MaxRuns-1], run("z", eight))
	return append(l, refusal{last, on(api.MaxRuns, op(insert, 0, "x", row("i=1")), op(keep, api.MaxRuns, "", row("i=1"))), api.ErrBig}, refusal{last, of(api.MaxRuns, "+x{i=1} =1999 =1{i=1}"), api.ErrBig}, refusal{last, of(api.MaxRuns, "+x{i=1}"), api.ErrLong})
}

func TestP52Refusals(t *testing.T) {
	for i, x := range slices.Concat(wrongChanges(), tooMuch()) {
		if d, e := apply.Apply(x.d, x.c); d != nil || e != x.want {
			t.Error(i, show(x.c), show(d), e, x.want)
		}
	}
}

func TestP52AtTheLimits(t *testing.T) {
	for i, x := range []struct{ d, c, want string }{
		{"a{" + eight + "}", "=1{h=2}", "a{a=1,b=1,c=1,d=1,e=1,f=1,g=1,h=2}"}, {"a{" + eight + "}", "=1{a=,i=1}", "a{b=1,c=1,d=1,e=1,f=1,g=1,h=1,i=1}"}, {"a", "=1{" + eight + "}", "a{" + eight + "}"}, {"a{" + eight + "} b", "-1 =1{i=1}", "b{i=1}"}, {"a b{" + eight + "}", "=1{i=1}", "a{i=1} b{" + eight + "}"},
		{"a", "+x{" + eight + "}", "x{" + eight + "} a"}, {"a{" + eight + "}", "=1{i=}", "a{" + eight + "}"},
	} {
		d := doc(x.d)
		if got, e := apply.Apply(d, of(len(split(d)), x.c)); !sameDoc(got, doc(x.want)) || e != api.OK {
			t.Error(i, show(got), e)
		}
	}
	most := striped(api.MaxRuns)
	for _, s := range []string{"", "=2000{b=3}", "+x", "=1 +x", "-1 +x{i=1}", "+x -1999", "=1999 +x{b=2} -1", "-1", "=2 -1 +x{i=1}"} {
		c := of(api.MaxRuns, s)
		now, _ := carry(split(most), c)
		if got, e := apply.Apply(most, c); !sameDoc(got, joined(now)) || e != api.OK {
			t.Error(s, show(got), e)
		}
	}
	full := run(long(api.MaxText), "")
	if got, e := apply.Apply(full, on(api.MaxText, op(insert, 0, long(api.MaxText), row("b=1")), op(remove, api.MaxText, "", nil))); !sameDoc(got, run(long(api.MaxText), "b=1")) || e != api.OK {
		t.Error(show(got), e)
	}
	// More runs on the way than there are then.
	var ops []api.Op
	for range api.MaxOps / 2 {
		ops = append(ops, op(insert, 0, "x", nil), op(remove, 2, "", nil))
	}
	if got, e := apply.Apply(striped(api.MaxRuns), on(api.MaxRuns, ops...)); !sameDoc(got, run(strings.Repeat("x", api.MaxOps/2), "")) || e != api.OK {
		t.Error(show(got), e)
	}
}

func TestP52ApplyOfEach(t *testing.T) {
	pairs(func(d []api.Run, c api.Change) {
		now, _ := carry(split(d), c)
		if got, e := apply.Apply(d, c); !sameDoc(got, joined(now)) || e != api.OK {
			t.Fatal(show(d), show(c), show(got), e)
		}
	})
}

func TestP53Examples(t *testing.T) {
	for i, x := range []struct {
		d, c string
		from int
		want string
	}{
		{"ab{b=1} cd", "=1 +x -1 =1{i=1}", 4, "=1 +b{b=1} -1 =1{i=}"}, {"ab{b=1} cd", "", 4, ""}, {"ab{b=1} cd", "=4", 4, ""}, {"ab{b=1} cd", "-4", 0, "+ab{b=1} +cd"}, {"ab{b=1} cd", "+x{i=1} +y", 6, "-2"}, {"ab{b=1} cd", "=4{b=1}", 4, "=2 =2{b=}"}, {"ab{b=1} cd", "=2{b=1}", 4, ""},
		{"ab{b=1} cd", "=2{b=2} -1", 3, "=2{b=1} +c"}, {"ab{b=1} cd", "=4{b=3}", 4, "=2{b=1} =2{b=}"}, {"ab{b=1} cd", "=2{b=} =2", 4, "=2{b=1}"}, {"ab{b=1} cd", "=1{b=} =1{b=2} =2", 4, "=2{b=1}"}, {"ab{b=1} cd", "-1 +x -1 +y", 4, "+ab{b=1} -2"}, {"ab{b=1} cd", "=2 =1{i=1} =1{i=2}", 4, "=2 =2{i=}"},
		{"ab{b=1} cd", "=4 +x", 5, "=4 -1"}, {"ab{b=1} cd", "=3 -1", 3, "=3 +d"}, {"ab{b=1} cd", "=1{i=}", 4, ""}, {"ab{b=1} cd", "=1{a=1,b=2,c=}", 4, "=1{a=,b=1}"},
	} {
		if c, e := apply.Inverse(doc(x.d), of(4, x.c)); !sameChange(c, of(x.from, x.want)) || e != api.OK {
			t.Error(i, show(c), e)
		}
	}
}

func TestP53Refusals(t *testing.T) {
	for i, x := range slices.Concat(wrongChanges(), tooMuch()) {
		if c, e := apply.Inverse(x.d, x.c); !none(c) || e != x.want {
			t.Error(i, show(x.c), show(c), e, x.want)
		}
	}
	most := striped(api.MaxRuns)
	for _, s := range []string{"+x -2000", "=2000{b=3} +x", "=1000{b=3} +x =1000{b=3}", "=1999{b=3} +x{b=2} -1"} {
		c := of(api.MaxRuns, s)
		if _, e := apply.Apply(most, c); e != api.OK {
			t.Error(s, e)
		}
		if c, e := apply.Inverse(most, c); !none(c) || e != api.ErrLong {
			t.Error(s, show(c), e)
		}
	}
}

func TestP53AtTheLimits(t *testing.T) {
	most := striped(api.MaxRuns)
	plain := run(long(api.MaxText), "")
	var turns []api.Op
	for i := range api.MaxOps / 2 {
		turns = append(turns, op(remove, 1, "", nil), op(insert, 0, "x", row([]string{"", "i=1"}[i%2])))
	}
	for i, x := range []struct {
		d []api.Run
		c api.Change
	}{
		{most, of(api.MaxRuns, "-2000")}, {most, of(api.MaxRuns, "=2000{b=3}")}, {most, of(api.MaxRuns, "+x -1999")}, {most, of(api.MaxRuns, "=1998{b=3} +x{b=2} -1 =1")}, {most, on(api.MaxRuns)}, {most, of(api.MaxRuns, "=1 -1999")},
		// More steps than operations may be, which the normal form puts together.
		{plain, on(api.MaxText, turns...)}, {plain, on(api.MaxText, op(remove, api.MaxText, "", nil), op(insert, 0, long(api.MaxText), nil))}, {plain, on(api.MaxText, op(keep, api.MaxText, "", row("b=1")))},
		{most, on(api.MaxRuns, turns...)}, {run("a", eight), of(1, "=1{a=,b=,c=,d=,e=,f=,g=,h=}")}, {run("a", eight), of(1, "=1{a=2,b=2,c=2,d=2,e=2,f=2,g=2,h=2}")},
	} {
		now, back := carry(split(x.d), x.c)
		if c, e := apply.Inverse(x.d, x.c); !sameChange(c, fold(len(now), back)) || e != api.OK {
			t.Error(i, show(c), e)
		}
	}
}

func TestP53InverseOfEach(t *testing.T) {
	pairs(func(d []api.Run, c api.Change) {
		now, back := carry(split(d), c)
		if got, e := apply.Inverse(d, c); !sameChange(got, fold(len(now), back)) || e != api.OK {
			t.Fatal(show(d), show(c), show(got), e)
		}
	})
}

func TestP54Examples(t *testing.T) {
	for i, x := range []struct {
		a, b string
		from int
		want string
	}{
		{"ab{b=1} cd", "ab{b=1} xd", 4, "=2 +x -1"}, {"", "", 0, ""}, {"abc", "abc", 3, ""}, {"", "ab{b=1} c", 0, "+ab{b=1} +c"}, {"ab{b=1} c", "", 3, "-3"}, {"aa", "a", 2, "=1 -1"}, {"a", "aa", 1, "=1 +a"}, {"aaa", "aa", 3, "=2 -1"}, {"a", "a{b=1}", 1, "+a{b=1} -1"},
		{"abab", "ab", 4, "=2 -2"}, {"ab", "abab", 2, "=2 +ab"}, {"abcab", "abab", 5, "=2 -1"}, {"abc", "xbc", 3, "+x -1"}, {"abc", "abx", 3, "=2 +x -1"}, {"a b{b=1} c", "abc", 3, "=1 +b -1"}, {"abc", "a b{b=1} c", 3, "=1 +b{b=1} -1"}, {"ab", "a{b=1} b{b=2}", 2, "+a{b=1} +b{b=2} -2"},
		{"a{b=1}", "a{b=2}", 1, "+a{b=2} -1"}, {"é", "è", 1, "+è -1"}, {"aé", "aè", 2, "=1 +è -1"}, {"éa", "\u0129a", 2, "+\u0129 -1"}, {"a b{b=1}", "ab{b=1}", 2, "+a{b=1} -1"}, {"a{b=1} a", "a", 2, "-1"}, {"a a{b=1} a", "aa", 3, "=1 -1"},
	} {
		if c, e := apply.Between(doc(x.a), doc(x.b)); !sameChange(c, of(x.from, x.want)) || e != api.OK {
			t.Error(i, show(c), e)
		}
	}
}

func TestP54AtTheLimits(t *testing.T) {
	most := striped(api.MaxRuns)
	full := run(long(api.MaxText), "")
	for i, x := range []struct {
		a, b []api.Run
		long bool
	}{
		{nil, most, false}, {most, nil, false}, {most, most, false}, {run("z", ""), most, true}, {run("z", ""), most[1:], false}, {run("az", ""), most, true}, {run("a", ""), most, false}, {run("za", "b=1"), most, false}, {run("a", "b=1"), most, false}, {run("az", ""), slices.Concat(most[:1], run("a", "i=1"), most[1:api.MaxRuns-1]), true},
		{run("az", ""), most[:api.MaxRuns-1], false}, {run("az", "q=1"), most, true}, {most, full, false}, {full, most, true}, {full, most[1:], false}, {full, run(long(api.MaxText-1), ""), false}, {full, run(long(api.MaxText), "b=1"), false}, {full, full, false},
	} {
		want := fold(len(split(x.a)), between(split(x.a), split(x.b)))
		if (len(want.Ops) > api.MaxOps) != x.long {
			t.Fatal(i, len(want.Ops))
		}
		c, e := apply.Between(x.a, x.b)
		if x.long && (!none(c) || e != api.ErrLong) || !x.long && (!sameChange(c, want) || e != api.OK) {
			t.Error(i, show(c), e)
		}
	}
}

func TestP54BetweenEachTwo(t *testing.T) {
	docs := all(4)
	for i, a := range docs {
		for _, b := range docs[i%3:] {
			want := fold(len(split(a)), between(split(a), split(b)))
			if c, e := apply.Between(a, b); !sameChange(c, want) || e != api.OK {
				t.Fatal(show(a), show(b), show(c), e)
			}
		}
	}
}

func TestP55Slice(t *testing.T) {
	if d, e := apply.Slice(doc("ab{b=1} cd"), 1, 3); !sameDoc(d, doc("b{b=1} c")) || e != api.OK {
		t.Error(show(d), e)
	}
	for _, d := range append(all(4), doc("ab{b=1} cdé \U0001f600\U0001f600{i=1}")) {
		l := split(d)
		for from := -2; from < len(l)+3; from++ {
			for to := -2; to < len(l)+3; to++ {
				part, e := apply.Slice(d, from, to)
				if from < 0 || from > to || to > len(l) {
					if part != nil || e != api.ErrArg {
						t.Fatal(show(d), from, to, show(part), e)
					}
				} else if !sameDoc(part, joined(l[from:to])) || e != api.OK {
					t.Fatal(show(d), from, to, show(part), e)
				}
			}
		}
	}
	for _, x := range [][2]int{{math.MinInt, 0}, {0, math.MaxInt}, {math.MaxInt, math.MaxInt}, {math.MinInt, math.MinInt}, {math.MaxInt, math.MinInt}, {math.MinInt, math.MaxInt}, {1, math.MinInt}} {
		if part, e := apply.Slice(doc("abc"), x[0], x[1]); part != nil || e != api.ErrArg {
			t.Error(x, show(part), e)
		}
	}
	for _, d := range rightDocs() {
		n := len(split(d))
		if part, e := apply.Slice(d, 0, n); !sameDoc(part, d) || e != api.OK {
			t.Error(show(part), e)
		}
		if part, e := apply.Slice(d, n, n); len(part) != 0 || e != api.OK {
			t.Error(show(part), e)
		}
	}
}

func TestP55As(t *testing.T) {
	if c, e := apply.As(doc("ab{b=1} cd")); !sameChange(c, of(0, "+ab{b=1} +cd")) || e != api.OK {
		t.Error(show(c), e)
	}
	for _, d := range slices.Concat(rightDocs(), all(4)) {
		want := api.Change{}
		for _, x := range d {
			want.Ops = append(want.Ops, op(insert, 0, x.Text, x.Attrs))
		}
		if c, e := apply.As(d); !sameChange(c, want) || e != api.OK {
			t.Error(show(d), show(c), e)
		}
	}
}

// sundry are lists of runs of any kind, no two of which are the same.
func sundry() [][]api.Run {
	return [][]api.Run{
		nil, doc("a"), doc("b"), doc("ab"), doc("a b"), doc("b a"), doc("a{b=1}"), doc("a{b=2}"), doc("a{b=}"), doc("a{i=1}"), doc("a{b=1,i=1}"), doc("a{i=1,b=1}"), doc("a{b=1,b=1}"), doc("a{b=1} b"), doc("a b{b=1}"), doc("a{b=1} b{b=1}"), doc("ab{b=1}"), doc("a a"), doc("a a a"),
		run("", ""), run("", "b=1"), slices.Concat(run("", ""), run("", "")), slices.Concat(doc("a"), run("", "")), slices.Concat(run("", ""), doc("a")), run("\xff", ""), run("\xfe", ""), run("\uFFFD", ""), {{Text: "a", Attrs: []api.Attr{{}}}}, {{Text: "a", Attrs: []api.Attr{{}, {}}}}, {{Text: "a", Attrs: []api.Attr{{Key: "b=", Value: "1"}}}},
		run(long(api.MaxText+1), ""), run(long(api.MaxText+2), ""), striped(api.MaxRuns), striped(2 * api.MaxRuns), run("a", eight), run("a", eight+",i=1"),
	}
}

func TestP55Same(t *testing.T) {
	other := sundry()
	for i, a := range sundry() {
		for j, b := range other {
			if got := apply.Same(a, b); got != (i == j) {
				t.Error(show(a), show(b), got)
			}
		}
	}
	for i, x := range [][2][]api.Run{{nil, {}}, {doc("a"), {{Text: "a", Attrs: []api.Attr{}}}}} {
		if !apply.Same(x[0], x[1]) || !apply.Same(x[1], x[0]) {
			t.Error(i)
		}
	}
}

func TestP57ApplyAndNormal(t *testing.T) {
	pairs(func(d []api.Run, c api.Change) {
		now, _ := apply.Apply(d, c)
		n, e := apply.Length(now)
		to, _ := change.To(c)
		if n != to || e != api.OK || apply.Right(now) != api.OK {
			t.Fatal(show(d), show(c), show(now), n, to, e)
		}
		normal, _ := change.Normal(c)
		if got, e := apply.Apply(d, normal); !apply.Same(got, now) || e != api.OK {
			t.Fatal(show(d), show(c), show(got), e)
		}
	})
}

func TestP57InverseBringsBack(t *testing.T) {
	pairs(func(d []api.Run, c api.Change) {
		now, _ := apply.Apply(d, c)
		back, e := apply.Inverse(d, c)
		if e != api.OK || !change.Is(back) {
			t.Fatal(show(d), show(c), show(back), e)
		}
		if got, e := apply.Apply(now, back); !apply.Same(got, d) || e != api.OK {
			t.Fatal(show(d), show(c), show(back), show(got), e)
		}
	})
}

func TestP57BetweenAndAs(t *testing.T) {
	docs := append(all(3), doc("ab{b=1} cdé \U0001f600{i=1}"), run(long(api.MaxText), "b=1"))
	for _, a := range docs {
		made, _ := apply.As(a)
		if got, e := apply.Apply(nil, made); !apply.Same(got, a) || e != api.OK || !change.Is(made) {
			t.Fatal(show(a), show(made), show(got), e)
		}
		for _, b := range docs[:85] {
			c, e := apply.Between(a, b)
			if e != api.OK || !change.Is(c) {
				t.Fatal(show(a), show(b), show(c), e)
			}
			if got, e := apply.Apply(a, c); !apply.Same(got, b) || e != api.OK {
				t.Fatal(show(a), show(b), show(c), show(got), e)
			}
		}
	}
}
