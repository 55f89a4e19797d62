package read_test

import (
	"iter"
	"slices"
	"strconv"
	"strings"
	"testing"
	"unsafe"

	"ponder/api"
	"ponder/read"
	"ponder/shape"
	"ponder/show"
)

// holds asks One, All and Each for the only production of a text.
func holds(t *testing.T, text string, want api.Prod) {
	t.Helper()
	p, at, err := read.One(text)
	equal(t, "One of "+text, told(p), told(want))
	equal(t, "its index and error", result{at, err}, result{-1, api.OK})
	allAre(t, text, want)
}

// allAre asks All and Each for the productions of a text without an error.
func allAre(t *testing.T, text string, want ...api.Prod) {
	t.Helper()
	l, at, err := read.All(text)
	equal(t, "All of "+text, told(l...), told(want...))
	equal(t, "its index and error", result{at, err}, result{-1, api.OK})
	l, err = eachOf(read.Each(text))
	equal(t, "Each of "+text, told(l...), told(want...))
	equal(t, "its error", err, api.OK)
}

// allFails asks All and Each for an error behind so many productions.
func allFails(t *testing.T, text string, whole, at int, err api.Errno) {
	t.Helper()
	l, gotAt, gotErr := read.All(text)
	equal(t, "All's index and error of "+text, result{gotAt, gotErr}, result{at, err})
	equal(t, "All's productions beside an error", len(l), 0)
	l, gotErr = eachOf(read.Each(text))
	equal(t, "Each's error of "+text, gotErr, err)
	equal(t, "Each's productions in front of the error", len(l), whole)
}

func oneFails(t *testing.T, text string, at int, err api.Errno) {
	t.Helper()
	p, gotAt, gotErr := read.One(text)
	equal(t, "One's index and error of "+text, result{gotAt, gotErr}, result{at, err})
	equal(t, "One's production beside an error", told(p), told(api.Prod{}))
}

// eachOf returns the productions in front of the error, if there is one. It stops
// the test where the error is not the last, or has a production beside it.
func eachOf(s iter.Seq2[api.Prod, api.Errno]) ([]api.Prod, api.Errno) {
	var l []api.Prod
	var last api.Errno
	for p, err := range s {
		if last != api.OK {
			panic("more behind the error")
		}
		if last = err; err == api.OK {
			l = append(l, p)
		} else if told(p) != told(api.Prod{}) {
			panic("a production beside an error: " + told(p))
		}
	}
	return l, last
}

// a is the production of a few conditions and one action.
func a(l ...api.Cond) api.Prod {
	return api.Prod{Name: "a", Conds: l, Acts: []api.Act{act("s", aw("z"), plain(av("v")), api.Accept)}}
}

func textOf(conds string) string {
	return "sp {a " + conds + " --> (<s> ^z <v>)}"
}

// P8.1

func TestConditions(t *testing.T) {
	y := tests(w("y"))
	for _, c := range []struct {
		text string
		want []api.Cond
	}{
		{"(<s> ^x)", []api.Cond{pos("s", x())}},
		{"(<s> ^x 1)", []api.Cond{pos("s", x(), n(1))}},
		{"(<s> ^x +)", []api.Cond{with(pos("s", x()), "+")}},
		{"(<s> ^x <v> +)", []api.Cond{with(pos("s", x(), v("v")), "+")}},
		{"(state <s> ^x <v>)", []api.Cond{with(pos("s", x(), v("v")), "state")}},
		{"(state <s> ^x <v> -^y 3)", []api.Cond{with(pos("s", x(), v("v")), "state"), with(neg("s", y, n(3)), "state")}},
		{"(<s> - ^x ^y + - ^x 1 + ^y 2)", []api.Cond{neg("s", x()), with(pos("s", y), "+"), with(neg("s", x(), n(1)), "+"), pos("s", y, n(2))}},
		{"(<s> ^x -1)", []api.Cond{pos("s", x(), n(-1))}},
		{"(<s> ^state state ^sp sp)", []api.Cond{pos("s", tests(w("state")), w("state")), pos("s", tests(w("sp")), w("sp"))}},
		{"(<state> ^<sp> <s>)", []api.Cond{pos("state", tests(v("sp")), v("s"))}},
		{"(state <state> ^x)", []api.Cond{with(pos("state", x()), "state")}},
		{"(<s> ^5 6)", []api.Cond{pos("s", tests(n(5)), n(6))}},
		{"-(<s> ^x)", []api.Cond{neg("s", x())}},
		{"-(state <s> ^x 1 +)", []api.Cond{with(neg("s", x(), n(1)), "state", "+")}},
		{"-(<s> -^x)", []api.Cond{all(neg("s", x()))}},
		{"-(<s> ^x ^y)", []api.Cond{all(pos("s", x()), pos("s", y))}},
		{"-(state <s> ^x -^y +)", []api.Cond{all(with(pos("s", x()), "state"), with(neg("s", y), "state", "+"))}},
		{"-{(<s> ^x)}", []api.Cond{all(pos("s", x()))}},
		{"-{-(<s> ^x)}", []api.Cond{all(neg("s", x()))}},
		{"-{(<s> ^x ^y) -(<s> ^x ^y)}", []api.Cond{all(pos("s", x()), pos("s", y), all(pos("s", x()), pos("s", y)))}},
		{"-{-{-{(<s> ^x)}(<s> ^y)}}", []api.Cond{all(all(all(pos("s", x())), pos("s", y)))}},
		{"-{-{(<s> ^x)}} (<s> ^y) - { ( <v> ^ x 1 ) }", []api.Cond{all(all(pos("s", x()))), pos("s", y), all(pos("v", x(), n(1)))}},
	} {
		holds(t, textOf(c.text), a(c.want...))
	}
}

func TestFields(t *testing.T) {
	for _, c := range []struct {
		text string
		want []api.Test
	}{
		{"<v>", tests(v("v"))},
		{"red", tests(w("red"))},
		{"0", tests(n(0))},
		{"-2147483647", tests(n(-api.MaxInt))},
		{"2147483647", tests(n(api.MaxInt))},
		{longest, tests(w(longest))},
		{"<" + longest + ">", tests(v(longest))},
		{"<> <v>", tests(rel(api.Ne, "v"))},
		{"< <v>", tests(rel(api.Lt, "v"))},
		{"<= <v>", tests(rel(api.Le, "v"))},
		{"> <v>", tests(rel(api.Gt, "v"))},
		{">= <v>", tests(rel(api.Ge, "v"))},
		{"<=> <v>", tests(rel(api.Same, "v"))},
		{"<>red", tests(than(api.Ne, word("red")))},
		{"<5", tests(than(api.Lt, number(5)))},
		{"<=-5", tests(than(api.Le, number(-5)))},
		{">0", tests(than(api.Gt, number(0)))},
		{">=7", tests(than(api.Ge, number(7)))},
		{"<=>1", tests(than(api.Same, number(1)))},
		{"<< a >>", tests(in(word("a")))},
		{"<<b 7 a-b -7 b state>>", tests(in(word("b"), number(7), word("a-b"), number(-7), word("b"), word("state")))},
		{"{ <v> }", tests(v("v"))},
		{"{<< 1 >>}", tests(in(number(1)))},
		{"{<> 3}", tests(than(api.Ne, number(3)))},
		{"{ <v> <> <w> }", tests(v("v"), rel(api.Ne, "w"))},
		{"{<v><< a 1 >> > 2 <w>}", tests(v("v"), in(word("a"), number(1)), than(api.Gt, number(2)), v("w"))},
	} {
		holds(t, textOf("(<s> ^"+c.text+")"), a(pos("s", c.want)))
		holds(t, textOf("(<s> ^x "+c.text+")"), a(pos("s", x(), c.want...)))
		holds(t, textOf("(<s> ^"+c.text+" "+c.text+"+)"), a(with(pos("s", c.want, c.want...), "+")))
		holds(t, textOf("-(<s> ^"+c.text+" "+c.text+")"), a(neg("s", c.want, c.want...)))
	}
}

func TestActions(t *testing.T) {
	vOf := plain(av("v"))
	for _, c := range []struct {
		text string
		want []api.Act
	}{
		{"(<s> ^x <v>)", []api.Act{act("s", aw("x"), vOf, api.Accept)}},
		{"(<s> ^x <v> +)", []api.Act{act("s", aw("x"), vOf, api.Accept)}},
		{"(<s> ^x <v> -)", []api.Act{act("s", aw("x"), vOf, api.Reject)}},
		{"(<s> ^x <v> !)", []api.Act{act("s", aw("x"), vOf, api.Require)}},
		{"(<s> ^x <v> ~)", []api.Act{act("s", aw("x"), vOf, api.Prohibit)}},
		{"(<s> ^x <v> >)", []api.Act{act("s", aw("x"), vOf, api.Best)}},
		{"(<s> ^x <v> <)", []api.Act{act("s", aw("x"), vOf, api.Worst)}},
		{"(<s> ^x <v> =)", []api.Act{act("s", aw("x"), vOf, api.Indiff)}},
		{"(<s> ^x <v> > <w>)", []api.Act{act("s", aw("x"), vOf, api.Better, av("w"))}},
		{"(<s> ^x <v> < red)", []api.Act{act("s", aw("x"), vOf, api.Worse, aw("red"))}},
		{"(<s> ^x <v> = -4)", []api.Act{act("s", aw("x"), vOf, api.Alike, an(-4))}},
		{"(<s> ^x <v>><w>)", []api.Act{act("s", aw("x"), vOf, api.Better, av("w"))}},
		{"(<s> ^x <v> <5)", []api.Act{act("s", aw("x"), vOf, api.Worse, an(5))}},
		{"(<s> ^x <v>=sp)", []api.Act{act("s", aw("x"), vOf, api.Alike, aw("sp"))}},
		{"(<s> ^x 1 ^<a> red - ^-5 <new>)", []api.Act{
			act("s", aw("x"), plain(an(1)), api.Accept),
			act("s", av("a"), plain(aw("red")), api.Reject),
			act("s", an(-5), plain(av("new")), api.Accept),
		}},
		{"(<s> ^x <v> > ^x <v> < ^x <v> = 1 ^x <v> =)", []api.Act{
			act("s", aw("x"), vOf, api.Best),
			act("s", aw("x"), vOf, api.Worst),
			act("s", aw("x"), vOf, api.Alike, an(1)),
			act("s", aw("x"), vOf, api.Indiff),
		}},
		{"(<s> ^x (+ <v> 1))", []api.Act{act("s", aw("x"), term(api.Add, av("v"), an(1)), api.Accept)}},
		{"(<s> ^x (- 1 <v>) -)", []api.Act{act("s", aw("x"), term(api.Sub, an(1), av("v")), api.Reject)}},
		{"(<s> ^x(*-2 -3)>1)", []api.Act{act("s", aw("x"), term(api.Mul, an(-2), an(-3)), api.Better, an(1))}},
		{"(<s> ^x(- -2 3))", []api.Act{act("s", aw("x"), term(api.Sub, an(-2), an(3)), api.Accept)}},
		{"(<s> ^state state)(<state> ^<sp> sp)", []api.Act{
			act("s", aw("state"), plain(aw("state")), api.Accept),
			act("state", av("sp"), plain(aw("sp")), api.Accept),
		}},
	} {
		holds(t, "sp {b (<s> ^x) --> "+c.text+"}", api.Prod{Name: "b", Conds: []api.Cond{pos("s", x())}, Acts: c.want})
	}
}

func TestWholeTexts(t *testing.T) {
	holds(t, wholeText, whole())
	holds(t, strings.ReplaceAll(wholeText, "\n", " # }\r\n\t"), whole())
	holds(t, "sp{a(<s>^x)-->(<s>^z<v>)}", a(pos("s", x())))
	holds(t, "\n# sp {b }\nsp {a (<s> ^x) --> (<s> ^z <v>)}# x", a(pos("s", x())))
	allAre(t, wholeText+wholeText+textOf("(<s> ^x)")+wholeText, whole(), whole(), a(pos("s", x())), whole())
	for _, name := range []string{"sp", "state", "b-1", longest} {
		p := a(pos("s", x()))
		p.Name = name
		holds(t, "sp {"+name+" (<s> ^x) --> (<s> ^z <v>)}", p)
	}
	for _, none := range []string{"", " ", "\n\t\r", "# sp", "  # sp {\n# A"} {
		allAre(t, none)
		oneFails(t, none, len(none), api.ErrText)
	}
}

// What Check does not accept is read if it has its form.
func TestOnlyTheFormIsAsked(t *testing.T) {
	holds(t, textOf("-(<w> ^<u> <> <t>)"), a(neg("w", tests(v("u")), rel(api.Ne, "t"))))
}

// Each text ends with the first token that can not be there, followed by what
// could be.
func TestTokensThatCanNotBeThere(t *testing.T) {
	for _, c := range []struct {
		text string
		at   int
	}{
		{"x", 0},
		{"<sp>", 0},
		{"state {a", 0},
		{"A", 0},
		{" # x\n {", 6},
		{"sp a", 3},
		{"sp {", 4},
		{"sp {}", 4},
		{"sp {<a>", 4},
		{"sp {-->", 4},
		{"sp {7", 4},
		{"sp {a -->", 6},
		{"sp {a }", 6},
		{"sp {a b", 6},
		{"sp {a {", 6},
		{"sp {a - -", 8},
		{"sp {a - -->", 8},
		{"sp {a -{}", 8},
		{"sp {a -{{", 8},
		{"sp {a -{-->", 8},
		{"sp {a (", 7},
		{"sp {a (s", 7},
		{"sp {a (7", 7},
		{"sp {a (state state", 13},
		{"sp {a (state ^x", 13},
		{"sp {a (<state>)", 14},
		{"sp {a (<s> state", 11},
		{"sp {a (<s> x", 11},
		{"sp {a (<s> <x>", 11},
		{"sp {a (<s>)", 10},
		{"sp {a (<s> - )", 13},
		{"sp {a (<s> - -", 13},
		{"sp {a (<s> ^)", 12},
		{"sp {a (<s> ^^", 12},
		{"sp {a (<s> ^+", 12},
		{"sp {a (<s> ^-", 12},
		{"sp {a (<s> ^(", 12},
		{"sp {a (<s> ^=", 12},
		{"sp {a (<s> ^{}", 13},
		{"sp {a (<s> ^{{", 13},
		{"sp {a (<s> ^{x +", 15},
		{"sp {a (<s> ^{x ^", 15},
		{"sp {a (<s> ^{x )", 15},
		{"sp {a (<s> ^<<>>", 14},
		{"sp {a (<s> ^<< <a>", 15},
		{"sp {a (<s> ^<< a <> b", 17},
		{"sp {a (<s> ^<< a )", 17},
		{"sp {a (<s> ^<> )", 15},
		{"sp {a (<s> ^<> <> ", 15},
		{"sp {a (<s> ^<> << a >>", 15},
		{"sp {a (<s> ^<> {", 15},
		{"sp {a (<s> ^x y z", 16},
		{"sp {a (<s> ^x y {", 16},
		{"sp {a (<s> ^x y <", 16},
		{"sp {a (<s> ^x y (", 16},
		{"sp {a (<s> ^x (", 14},
		{"sp {a (<s> ^x + +", 16},
		{"sp {a (<s> ^x + y", 16},
		{"sp {a (<s> ^x - 4", 16},
		{"sp {a (<s> ^x -->", 14},
		{"sp {a (<s> ^x }", 14},
		{"sp {a (<s> ^x !", 14},
		{"sp {a (<s> ^x -0)", 14},
		{"sp {a (<s> ^x 2147483648)", 14},
		{"sp {a (<s> ^X)", 12},
		{"sp {a (<s> ^x S1)", 14},
		{"sp {a (<s> ^x) }", 15},
		{"sp {a (<s> ^x) ^", 15},
		{"sp {a -{(<s> ^x) -->", 17},
		{"sp {a (<s> ^x) --> }", 19},
		{"sp {a (<s> ^x) --> -", 19},
		{"sp {a (<s> ^x) --> -->", 19},
		{"sp {a (<s> ^x) --> (state <s> ^x y)", 20},
		{"sp {a (<s> ^x) --> (<s>)", 23},
		{"sp {a (<s> ^x) --> (<s> -^x y)", 24},
		{"sp {a (<s> ^x) --> (<s> ^x)", 26},
		{"sp {a (<s> ^x) --> (<s> ^x +)", 27},
		{"sp {a (<s> ^x) --> (<s> ^{x} y)", 25},
		{"sp {a (<s> ^x) --> (<s> ^<> x y)", 25},
		{"sp {a (<s> ^x) --> (<s> ^(+ 1 2) y)", 25},
		{"sp {a (<s> ^x) --> (<s> ^x {y})", 27},
		{"sp {a (<s> ^x) --> (<s> ^x << y >>)", 27},
		{"sp {a (<s> ^x) --> (<s> ^x (! 1 2))", 28},
		{"sp {a (<s> ^x) --> (<s> ^x (= 1 2))", 28},
		{"sp {a (<s> ^x) --> (<s> ^x (1 + 2))", 28},
		{"sp {a (<s> ^x) --> (<s> ^x (-1 2))", 28},
		{"sp {a (<s> ^x) --> (<s> ^x (+ 1))", 31},
		{"sp {a (<s> ^x) --> (<s> ^x (+ 1 2 3))", 34},
		{"sp {a (<s> ^x) --> (<s> ^x (+ (+ 1 2) 3))", 30},
		{"sp {a (<s> ^x) --> (<s> ^x y + 5)", 31},
		{"sp {a (<s> ^x) --> (<s> ^x y - <v>)", 31},
		{"sp {a (<s> ^x) --> (<s> ^x y ! z)", 31},
		{"sp {a (<s> ^x) --> (<s> ^x y ~ z)", 31},
		{"sp {a (<s> ^x) --> (<s> ^x y z)", 29},
		{"sp {a (<s> ^x) --> (<s> ^x y > (+ 1 2))", 31},
		{"sp {a (<s> ^x) --> (<s> ^x y > = z)", 31},
		{"sp {a (<s> ^x) --> (<s> ^x y > <v> z)", 35},
		{"sp {a (<s> ^x) --> (<s> ^x y >= z)", 29},
		{"sp {a (<s> ^x) --> (<s> ^x y <> z)", 29},
		{"sp {a (<s> ^x) --> (<s> ^x y <<z)", 29},
		{"sp {a (<s> ^x) --> (<s> ^x y + -)", 31},
		{"sp {a (<s> ^x) --> (<s> ^x y) -->", 30},
		{"sp {a (<s> ^x) --> (<s> ^x y) -(<s> ^x)}", 30},
		{"sp {a (<s> ^x) --> (<s> ^x y", 28},
		{"sp {a (<s> ^x) --> (<s> ^x y)", 29},
		{"sp {a (<s> ^x) --> (<s> ^x y) # }", 33},
	} {
		oneFails(t, c.text, c.at, api.ErrText)
		allFails(t, c.text, 0, c.at, api.ErrText)
		front := textOf("(<s> ^x)") + "\n"
		allFails(t, front+c.text, 1, len(front)+c.at, api.ErrText)
	}
}

func TestBehindTheOnlyProduction(t *testing.T) {
	front := textOf("(<s> ^x)")
	for _, more := range []string{"sp", "}", "A", front, "-0", "sp {a }"} {
		oneFails(t, front+" # x\n"+more, len(front)+5, api.ErrText)
	}
	for _, none := range []string{"", " ", "\n\r\t", "# sp", "#\n #\n"} {
		holds(t, front+none, a(pos("s", x())))
	}
}

func TestForms(t *testing.T) {
	cond, good := "(<s> ^x)", textOf("(<s> ^x)")+" "
	acts := func(act string, n int) string { return "sp {a " + cond + " --> " + strings.Repeat(act, n) + "}" }
	for _, c := range []struct {
		text string
		err  api.Errno
	}{
		{textOf(strings.Repeat(cond, 16)), api.OK},
		{textOf(strings.Repeat(cond, 17)), api.ErrMany},
		{textOf("(<s>" + strings.Repeat("^x", 17) + ")"), api.ErrMany},
		{textOf("-{" + strings.Repeat(cond, 15) + "}"), api.OK},
		{textOf("-{" + strings.Repeat(cond, 16) + "}"), api.ErrMany},
		{textOf("-(<s> " + strings.Repeat("^x", 15) + ")"), api.OK},
		{textOf("-(<s> " + strings.Repeat("^x", 16) + ")"), api.ErrMany},
		{acts("(<s> ^x y)", 16), api.OK},
		{acts("(<s> ^x y)", 17), api.ErrMany},
		{acts("(<s> ^x y ^x y)", 8), api.OK},
		{acts("(<s> ^x y ^x y)", 9), api.ErrMany},
		{textOf("(<s> ^{<a> <b> <c> <d>} {1 2 3 4})"), api.OK},
		{textOf("(<s> ^{<a> <b> <c> <d> <e>})"), api.ErrMany},
		{textOf("(<s> ^x {1 2 3 4 5})"), api.ErrMany},
		{textOf("(<s> ^x << 1 2 3 4 5 6 7 8 >>)"), api.OK},
		{textOf("(<s> ^x << 1 2 3 4 5 6 7 8 9 >>)"), api.ErrForm},
		{textOf("-{-{-{(<s> ^x)}}}"), api.OK},
		{textOf("-{-{-(<s> -^x)}}"), api.OK},
		{textOf("-{-{-{-{(<s> ^x)}}}}"), api.ErrNest},
		{textOf("-{-{-{-(<s> ^x ^y)}}}"), api.ErrNest},
		{textOf("-{-{-{-(<s> -^x)}}}"), api.ErrNest},
		{textOf("-{-{-{-(<s> ^x)}}}"), api.OK},
		{textOf(strings.Repeat("-{", 15) + cond + strings.Repeat("}", 15)), api.ErrNest},
		{textOf(strings.Repeat("-{", 16) + cond + strings.Repeat("}", 16)), api.ErrMany},
		{textOf(strings.Repeat("-{", 4000) + cond + strings.Repeat("}", 4000)), api.ErrMany},
		{acts("(<s> ^x (+ 1 red))", 1), api.ErrForm},
		{acts("(<s> ^x (- red 1))", 1), api.ErrForm},
		{acts("(<s> ^x (* red red))", 1), api.ErrForm},
		{acts("(<s> ^x red > red)", 1), api.OK},
	} {
		if c.err == api.OK {
			_, at, err := read.One(c.text)
			equal(t, "One's index and error of "+c.text, result{at, err}, result{-1, api.OK})
			continue
		}
		for _, blank := range []string{"", " \n", "# sp {\n"} {
			oneFails(t, blank+c.text, len(blank), c.err)
			oneFails(t, blank+c.text+"A", len(blank), c.err)
			oneFails(t, blank+c.text+good, len(blank), c.err)
			allFails(t, blank+c.text+"A", 0, len(blank), c.err)
			allFails(t, good+good+blank+c.text+"A", 2, 2*len(good)+len(blank), c.err)
			allFails(t, good+blank+c.text+c.text, 1, len(good)+len(blank), c.err)
		}
		oneFails(t, good+c.text, len(good), api.ErrText)
		unended := c.text[:len(c.text)-1]
		oneFails(t, unended, len(unended), api.ErrText)
		allFails(t, unended+c.text, 0, len(unended), api.ErrText)
	}
}

func TestLongTexts(t *testing.T) {
	text := textOf("(<s> ^x)")
	blanks := strings.Repeat(" ", api.MaxText-len(text))
	for _, long := range []string{text + blanks, blanks + text, text + "#" + blanks[1:]} {
		holds(t, long, a(pos("s", x())))
		oneFails(t, long+" ", 0, api.ErrMany)
		allFails(t, long+" ", 0, 0, api.ErrMany)
	}
	allAre(t, strings.Repeat(" ", api.MaxText))
	for _, long := range []string{strings.Repeat(" ", api.MaxText+1), strings.Repeat("A", api.MaxText+1), strings.Repeat("(", 1<<20)} {
		oneFails(t, long, 0, api.ErrMany)
		allFails(t, long, 0, 0, api.ErrMany)
	}
	oneFails(t, strings.Repeat("A", api.MaxText), 0, api.ErrText)
	deep := "sp {a " + strings.Repeat("-{", (api.MaxText-6)/2)
	oneFails(t, deep, api.MaxText, api.ErrText)
	allFails(t, deep, 0, api.MaxText, api.ErrText)
	many := strings.Repeat(text, api.MaxText/len(text))
	l, at, err := read.All(many)
	equal(t, "how many", len(l), api.MaxText/len(text))
	equal(t, "their error", result{at, err}, result{-1, api.OK})
}

// Many texts mean what they were made from, and the first one that is not of its
// form is told.
func TestManyTexts(t *testing.T) {
	m := &maker{next: steps(8)}
	wholes, faults := 0, 0
	for i := 0; i < 3000 && !t.Failed(); i++ {
		var l []source
		var texts []string
		for range m.next(4) {
			s := m.source()
			l, texts = append(l, s), append(texts, m.text(s.pieces))
		}
		text := strings.Join(texts, "")
		want, r := allByRules(l, texts)
		if r.err != api.OK {
			faults++
			allFails(t, text, slices.IndexFunc(l, func(s source) bool { _, err := shape.Shape(s.prod); return err != api.OK }), r.at, r.err)
		} else {
			wholes += len(l)
			allAre(t, text, want...)
		}
		if len(l) == 1 && r.err == api.OK {
			holds(t, text, l[0].prod)
		} else if len(l) == 1 {
			oneFails(t, text, r.at, r.err)
		}
	}
	equal(t, "whether there were enough of each", wholes > 1000 && faults > 300, true)
}

// Of many texts, one piece is put in, left out or changed: the first token that
// can not be there is that of the grammar.
func TestManyTextsThatAreNotOfTheLanguage(t *testing.T) {
	m := &maker{next: steps(9)}
	faults, still := 0, 0
	for i := 0; i < 4000 && !t.Failed(); i++ {
		text := m.text(m.changed(m.source().pieces))
		if m.chance(4) {
			text = textOf("(<s> ^x)") + text
		}
		at, whole := wrongAt(text)
		l, gotAt, gotErr := read.All(text)
		if gotErr != api.OK && gotErr != api.ErrText {
			continue
		}
		if at < 0 {
			still++
			equal(t, "the error of "+text, result{gotAt, gotErr}, result{-1, api.OK})
			equal(t, "how many there are", len(l), whole)
			continue
		}
		faults++
		allFails(t, text, whole, at, api.ErrText)
		if whole == 0 {
			oneFails(t, text, at, api.ErrText)
		}
	}
	equal(t, "whether there were enough of each", faults > 2000 && still > 200, true)
}

// R1: any bytes.
func TestAnyBytes(t *testing.T) {
	next := steps(10)
	for range 3000 {
		b := []byte(wholeText)
		for range 1 + next(3) {
			b[next(len(b))] = byte(next(256))
		}
		text := string(b)
		at, _ := wrongAt(text)
		_, gotAt, gotErr := read.All(text)
		if at >= 0 {
			equal(t, "the error of "+strconv.Quote(text), result{gotAt, gotErr}, result{at, api.ErrText})
		}
	}
}

// P8.2

func TestEachIsInOrder(t *testing.T) {
	texts := []string{textOf("(<s> ^x)"), wholeText, textOf("-(<s> ^x)"), textOf("(<s> ^{1 2 3 4 5})"), wholeText}
	want := []string{told(a(pos("s", x()))), told(whole()), told(a(neg("s", x()))), told(api.Prod{})}
	s := read.Each(strings.Join(texts, "\n"))
	for n := 1; n <= len(want); n++ {
		for range 2 {
			var got []string
			for p, err := range s {
				got = append(got, told(p))
				equal(t, "whether it is an error", err != api.OK, len(got) == len(want))
				if len(got) == n {
					break
				}
			}
			equal(t, "the first "+strconv.Itoa(n), strings.Join(got, ""), strings.Join(want[:n], ""))
		}
	}
}

// R7: a sequence does not go on after it was left, wherever that is.
func TestEachIsLeft(t *testing.T) {
	for _, text := range []string{
		wholeText + wholeText, wholeText + "A", "A", "sp {a", strings.Repeat(" ", api.MaxText+1), textOf("(<s> ^{1 2 3 4 5})") + "A",
	} {
		asked := 0
		read.Each(text)(func(api.Prod, api.Errno) bool {
			asked++
			return false
		})
		equal(t, "how often it was asked", asked, 1)
	}
}

// R7: loops over one sequence within one another.
func TestEachWithinItself(t *testing.T) {
	s := read.Each(textOf("(<s> ^x)") + wholeText + "A")
	var got strings.Builder
	for p, err := range s {
		for q, inner := range s {
			got.WriteString(p.Name + strconv.Itoa(int(err)) + q.Name + strconv.Itoa(int(inner)) + " ")
		}
	}
	equal(t, "the pairs", got.String(), "a0a0 a0whole-10 a05 whole-10a0 whole-10whole-10 whole-105 5a0 5whole-10 55 ")
}

// P8.3

func TestShownIsReadAgain(t *testing.T) {
	holds(t, wholeText, whole())
	m := &maker{next: steps(11)}
	for i, n := 0, 0; n < 3000 && !t.Failed(); i++ {
		p, _, err := read.One(m.text(m.source().pieces))
		if err != api.OK {
			continue
		}
		n++
		text, err := show.Prod(p)
		equal(t, "the error of its text", err, api.OK)
		holds(t, text, p)
	}
}

// What was read may have a longer text than can be read.
func TestShownIsTooLong(t *testing.T) {
	list := "<<" + strings.Repeat(longest+" ", api.MaxList) + ">>"
	field := "{" + strings.Repeat(list, api.MaxTests) + "}"
	text := "sp {a (state <" + longest + ">" + strings.Repeat("^"+field+field, 15) + "^x)-->(<s>^z 1)}"
	p, at, err := read.One(text)
	equal(t, "the index and error", result{at, err}, result{-1, api.OK})
	again, err := show.Prod(p)
	equal(t, "the error of its text", err, api.OK)
	equal(t, "whether it is too long", len(text) <= api.MaxText && len(again) > api.MaxText, true)
	oneFails(t, again, 0, api.ErrMany)
}

// R4

// span is where the memory of a list is, spare capacity included.
type span struct{ from, end uintptr }

func spanOf[T any](l []T) span {
	from := uintptr(unsafe.Pointer(unsafe.SliceData(l)))
	var one T
	return span{from, from + uintptr(cap(l))*unsafe.Sizeof(one)}
}

func spansOfConds(l []api.Cond) []span {
	s := []span{spanOf(l)}
	for _, c := range l {
		for _, f := range [][]api.Test{c.Attr, c.Value} {
			s = append(s, spanOf(f))
			for _, t := range f {
				s = append(s, spanOf(t.List))
			}
		}
		s = append(s, spansOfConds(c.Conds)...)
	}
	return s
}

func TestNewMemory(t *testing.T) {
	text := strings.Repeat(wholeText+textOf("(<s> ^x 1 -^y {<> 2 <v>}) -(<s> ^x << 1 >> ^y 3)"), 3)
	l, _, _ := read.All(text)
	more, _, _ := read.All(text)
	s := read.Each(text)
	for range 2 {
		for p := range s {
			more = append(more, p)
		}
	}
	p, _, _ := read.One(wholeText)
	spans := []span{spanOf(l), spanOf(more)}
	for _, p := range append(append(l, more...), p) {
		spans = append(spans, spanOf(p.Acts))
		spans = append(spans, spansOfConds(p.Conds)...)
	}
	spans = slices.DeleteFunc(spans, func(s span) bool { return s.from == s.end })
	slices.SortFunc(spans, func(a, b span) int { return int(a.from) - int(b.from) })
	for i := 1; i < len(spans); i++ {
		equal(t, "whether two lists share memory", spans[i-1].end > spans[i].from, false)
	}
	equal(t, "whether there were many", len(spans) > 200, true)
}
