package show_test

import (
	"iter"
	"math"
	"reflect"
	"slices"
	"strconv"
	"strings"
	"testing"

	"ponder/api"
	"ponder/shape"
	"ponder/show"
)

// P7.1

func TestCond(t *testing.T) {
	for _, c := range []struct {
		cond api.Cond
		want string
	}{
		{pos("v", tests(w("attr")), w("value")), "(<v> ^attr value)"},
		{with(pos("s", x(), n(1)), "state"), "(state <s> ^x 1)"},
		{pos("s", x()), "(<s> ^x)"},
		{with(pos("s", x()), "state"), "(state <s> ^x)"},
		{with(pos("s", x()), "+"), "(<s> ^x +)"},
		{with(pos("s", x(), v("o")), "+"), "(<s> ^x <o> +)"},
		{with(pos("s", x(), v("o")), "state", "+"), "(state <s> ^x <o> +)"},
		{neg("s", x(), n(-1)), "-(<s> ^x -1)"},
		{neg("s", x()), "-(<s> ^x)"},
		{with(neg("s", x(), n(-1)), "state", "+"), "-(state <s> ^x -1 +)"},
		{with(neg("s", x()), "state"), "-(state <s> ^x)"},
		{pos("state", tests(w("state")), w("sp")), "(<state> ^state sp)"},
		{pos(longest, tests(w(longest)), v(longest)), "(<" + longest + "> ^" + longest + " <" + longest + ">)"},
		{all(pos("s", x())), "-{(<s> ^x)}"},
		{all(neg("s", x()), pos("s", x(), v("v"))), "-{-(<s> ^x) (<s> ^x <v>)}"},
		{all(all(pos("s", x())), all(all(neg("v", x()), pos("s", x(), n(2))))), "-{-{(<s> ^x)} -{-{-(<v> ^x) (<s> ^x 2)}}}"},
		{all(pos("s", x()), all(pos("s", x())), pos("s", x())), "-{(<s> ^x) -{(<s> ^x)} (<s> ^x)}"},
	} {
		equal(t, "a condition", show.Cond(c.cond), c.want)
	}
}

func TestTests(t *testing.T) {
	for _, c := range []struct {
		test api.Test
		want string
	}{
		{v("v"), "<v>"},
		{w("red"), "red"},
		{w("no-change"), "no-change"},
		{n(0), "0"},
		{n(-7), "-7"},
		{n(api.MaxInt), "2147483647"},
		{n(-api.MaxInt), "-2147483647"},
		{rel(api.Ne, "v"), "<> <v>"},
		{rel(api.Lt, "v"), "< <v>"},
		{rel(api.Le, "v"), "<= <v>"},
		{rel(api.Gt, "v"), "> <v>"},
		{rel(api.Ge, "v"), ">= <v>"},
		{rel(api.Same, "v"), "<=> <v>"},
		{than(api.Ne, word("red")), "<> red"},
		{than(api.Lt, number(5)), "< 5"},
		{than(api.Le, number(-5)), "<= -5"},
		{than(api.Gt, number(0)), "> 0"},
		{than(api.Ge, word("red")), ">= red"},
		{than(api.Same, number(1)), "<=> 1"},
		{in(word("a"), word("b")), "<< a b >>"},
		{in(number(-1)), "<< -1 >>"},
		{in(word("b"), number(7), word("a"), word("b"), number(0), number(7), word("c"), number(-7)), "<< b 7 a b 0 7 c -7 >>"},
	} {
		equal(t, "a test of a value", show.Cond(pos("s", x(), c.test)), "(<s> ^x "+c.want+")")
		equal(t, "a test of an attribute", show.Cond(pos("s", tests(c.test))), "(<s> ^"+c.want+")")
		equal(t, "two tests of a value", show.Cond(pos("s", x(), c.test, v("w"))), "(<s> ^x { "+c.want+" <w> })")
		equal(t, "four tests of an attribute", show.Cond(neg("s", tests(v("w"), c.test, c.test, n(3)), c.test)),
			"-(<s> ^{ <w> "+c.want+" "+c.want+" 3 } "+c.want+")")
	}
}

func TestAct(t *testing.T) {
	for _, c := range []struct {
		act  api.Act
		want string
	}{
		{act("v", aw("attr"), plain(aw("value")), api.Accept), "(<v> ^attr value +)"},
		{act("s", aw("x"), plain(av("v")), api.Reject), "(<s> ^x <v> -)"},
		{act("s", av("a"), plain(an(-1)), api.Require), "(<s> ^<a> -1 !)"},
		{act("s", an(-1), plain(an(1)), api.Prohibit), "(<s> ^-1 1 ~)"},
		{act("s", an(0), plain(av("s")), api.Best), "(<s> ^0 <s> >)"},
		{act("s", aw("x"), plain(av("v")), api.Worst), "(<s> ^x <v> <)"},
		{act("s", aw("x"), plain(av("v")), api.Indiff), "(<s> ^x <v> =)"},
		{act("s", aw("x"), plain(av("v")), api.Better, av("w")), "(<s> ^x <v> > <w>)"},
		{act("s", aw("x"), plain(av("v")), api.Worse, aw("red")), "(<s> ^x <v> < red)"},
		{act("s", aw("x"), plain(av("v")), api.Alike, an(-3)), "(<s> ^x <v> = -3)"},
		{act("s", aw("x"), term(api.Add, av("v"), an(1)), api.Accept), "(<s> ^x (+ <v> 1) +)"},
		{act("s", aw("x"), term(api.Sub, an(-5), av("v")), api.Reject), "(<s> ^x (- -5 <v>) -)"},
		{act("s", aw("x"), term(api.Mul, an(api.MaxInt), an(-api.MaxInt)), api.Better, an(0)), "(<s> ^x (* 2147483647 -2147483647) > 0)"},
		{act(longest, aw(longest), plain(av(longest)), api.Alike, aw(longest)), "(<" + longest + "> ^" + longest + " <" + longest + "> = " + longest + ")"},
	} {
		equal(t, "an action", show.Act(c.act), c.want)
	}
}

func TestProd(t *testing.T) {
	p := api.Prod{
		Name:  "a",
		Conds: []api.Cond{with(pos("s", x(), n(1)), "state")},
		Acts:  []api.Act{act("s", aw("y"), plain(av("s")), api.Accept)},
	}
	text, err := show.Prod(p)
	equal(t, "the text", text, "sp {a\n  (state <s> ^x 1)\n-->\n  (<s> ^y <s> +)\n}\n")
	equal(t, "its error", err, api.OK)
	text, err = show.Prod(whole())
	equal(t, "the whole text", text, wholeText)
	equal(t, "its error", err, api.OK)
	p.Conds = []api.Cond{neg("v", x())}
	text, err = show.Prod(p)
	equal(t, "the text of what Check does not accept", text, "sp {a\n  -(<v> ^x)\n-->\n  (<s> ^y <s> +)\n}\n")
	equal(t, "its error", err, api.OK)
}

// The lines are those of Cond and Act, of many productions.
func TestLinesOfProductions(t *testing.T) {
	m := maker{steps(7)}
	for i := 0; i < 3000 && !t.Failed(); i++ {
		p := m.prod()
		want := "sp {" + p.Name + "\n"
		for _, c := range p.Conds {
			want += "  " + show.Cond(c) + "\n"
		}
		want += "-->\n"
		for _, a := range p.Acts {
			want += "  " + show.Act(a) + "\n"
		}
		text, err := show.Prod(p)
		equal(t, "the text", text, want+"}\n")
		equal(t, "its error", err, api.OK)
	}
}

func TestProdErrors(t *testing.T) {
	nested := pos("s", x())
	for range api.MaxNest + 1 {
		nested = all(nested)
	}
	for _, c := range []struct {
		what string
		harm func(p *api.Prod)
		err  api.Errno
	}{
		{"the zero production", func(p *api.Prod) { *p = api.Prod{} }, api.ErrName},
		{"a wrong name", func(p *api.Prod) { p.Name = "a b" }, api.ErrName},
		{"no conditions", func(p *api.Prod) { p.Conds = nil }, api.ErrMany},
		{"no actions", func(p *api.Prod) { p.Acts = nil }, api.ErrMany},
		{"too many conditions", func(p *api.Prod) { p.Conds = append(p.Conds, p.Conds...) }, api.ErrMany},
		{"too many actions", func(p *api.Prod) { p.Acts = append(p.Acts, p.Acts...) }, api.ErrMany},
		{"too many tests", func(p *api.Prod) { p.Conds[0].Value = make([]api.Test, 5) }, api.ErrMany},
		{"nested too deep", func(p *api.Prod) { p.Conds[3] = nested }, api.ErrNest},
		{"a wrong kind", func(p *api.Prod) { p.Conds[1].Kind = 4 }, api.ErrForm},
		{"an identifier", func(p *api.Prod) { p.Conds[1].Value[0] = than(api.Eq, id("S", 1)) }, api.ErrForm},
		{"a wrong action", func(p *api.Prod) { p.Acts[9].Pref = 11 }, api.ErrForm},
		{"a wrong name and a wrong action", func(p *api.Prod) { p.Name, p.Acts[9].Pref = "", 11 }, api.ErrName},
	} {
		p := whole()
		c.harm(&p)
		text, err := show.Prod(p)
		equal(t, "the text of "+c.what, text, "")
		equal(t, "the error of "+c.what, err, c.err)
		_, want := shape.Shape(p)
		equal(t, "Shape's error of "+c.what, err, want)
	}
}

func elem(id, attr, value api.Sym) api.Elem {
	return api.Elem{Id: id, Attr: attr, Value: value}
}

func TestElem(t *testing.T) {
	for _, c := range []struct {
		elem api.Elem
		want string
	}{
		{elem(id("S", 1), word("color"), word("red")), "(S1 ^color red)"},
		{elem(id("Z", api.MaxSeq), number(-3), id("O", 12)), "(Z1048576 ^-3 O12)"},
		{elem(id("A", 10), id("B", 2), number(api.MaxInt)), "(A10 ^B2 2147483647)"},
		{elem(word("a"), number(0), word(longest)), "(a ^0 " + longest + ")"},
		{api.Elem{}, "( ^ )"},
		{elem(id("s", 1), word("A"), number(-api.MaxInt-1)), "( ^ )"},
		{elem(id("S", 0), word("a"), number(1)), "( ^a 1)"},
	} {
		equal(t, "an element", show.Elem(c.elem), c.want)
		c.elem.Goal, c.elem.Tag = true, 77
		equal(t, "an element of a goal, with its tag", show.Elem(c.elem), c.want)
		c.elem.Acc = true
		equal(t, "an acceptable one", show.Elem(c.elem), c.want[:len(c.want)-1]+" +)")
	}
}

// elems are n elements with their texts.
func elems(n int) ([]api.Elem, []string) {
	var l []api.Elem
	var texts []string
	for i := range n {
		e := elem(id("S", 1), word("x"), number(i%5))
		e.Acc = i%3 == 0
		l = append(l, e)
		texts = append(texts, "(S1 ^x "+strconv.Itoa(i%5)+map[bool]string{true: " +)", false: ")"}[e.Acc])
	}
	return l, texts
}

func TestLines(t *testing.T) {
	for n := range 20 {
		l, want := elems(n)
		equal(t, "the texts", strings.Join(slices.Collect(show.Lines(slices.Values(l))), "\n"), strings.Join(want, "\n"))
	}
}

// R7

func TestLinesAreLeftEarly(t *testing.T) {
	l, want := elems(10)
	for n := 1; n <= len(l); n++ {
		taken := 0
		counted := func(yield func(api.Elem) bool) {
			for _, e := range l {
				taken++
				if !yield(e) {
					return
				}
			}
		}
		var got []string
		show.Lines(counted)(func(text string) bool {
			got = append(got, text)
			return len(got) != n
		})
		equal(t, "the texts, left", strings.Join(got, "\n"), strings.Join(want[:n], "\n"))
		equal(t, "how many elements were taken", taken, n)
	}
}

func TestLinesAreRangedOverAgain(t *testing.T) {
	l, want := elems(10)
	seq := show.Lines(slices.Values(l))
	for n := range want {
		k := 0
		for text := range seq {
			equal(t, "a text", text, want[k])
			if k == n {
				break
			}
			k++
		}
	}
	k := 0
	for text := range seq {
		equal(t, "the texts, in a loop over them", strings.Join(slices.Collect(seq), "\n"), strings.Join(want, "\n"))
		equal(t, "a text, with a loop within", text, want[k])
		k++
	}
	equal(t, "how many there were", k, len(want))
}

// The elements are asked for when a loop asks for their texts, and not before.
func TestLinesGoOverTheSequenceEachTime(t *testing.T) {
	begun, elems := 0, 0
	var seq iter.Seq[api.Elem] = func(yield func(api.Elem) bool) {
		begun++
		for i := range 3 {
			elems++
			if !yield(elem(id("S", 1), word("x"), number(i))) {
				return
			}
		}
	}
	lines := show.Lines(seq)
	equal(t, "how often it was gone over ahead", begun, 0)
	for i := range 4 {
		k := 0
		for text := range lines {
			equal(t, "a text", text, "(S1 ^x "+strconv.Itoa(k)+")")
			k++
			equal(t, "how many elements were asked for", elems, 3*i+k)
		}
		equal(t, "how often it was gone over", begun, i+1)
	}
}

// A sequence that goes on where it was left is not told on.
func TestLinesOfASequenceThatGoesOn(t *testing.T) {
	heedless := func(yield func(api.Elem) bool) {
		for i := range 5 {
			yield(elem(id("S", 1), word("x"), number(i)))
		}
	}
	k := 0
	for text := range show.Lines(heedless) {
		equal(t, "a text", text, "(S1 ^x "+strconv.Itoa(k)+")")
		k++
		if k == 2 {
			break
		}
	}
	equal(t, "how many there were", k, 2)
}

// P7.2

// read holds the text of p to what it is read as.
func read(t *testing.T, p api.Prod) string {
	t.Helper()
	text, err := show.Prod(p)
	if err != api.OK {
		t.Fatalf("no text: %d, of %+v", err, p)
	}
	if got := readOf(text); !reflect.DeepEqual(got, p) {
		t.Errorf("read as\n%+v\n, not\n%+v\n, of\n%s", got, p, text)
	}
	return text
}

func TestTextsAreReadAsTheirProductions(t *testing.T) {
	read(t, whole())
	m := maker{steps(77)}
	texts := map[string]api.Prod{}
	for i := 0; i < 20000 && !t.Failed(); i++ {
		p := m.prod()
		text := read(t, p)
		if q, ok := texts[text]; ok && !reflect.DeepEqual(p, q) {
			t.Errorf("two productions have the text\n%s", text)
		}
		texts[text] = p
	}
}

// variants differ from the whole production, and from one another, in one thing each.
func variants() []api.Prod {
	var l []api.Prod
	change := func(harm func(p *api.Prod)) {
		p := whole()
		harm(&p)
		l = append(l, p)
	}
	atoms := []api.Atom{av("x"), aw("x"), an(0), an(-1), an(10), av("x1"), aw("x1")}
	for _, a := range atoms {
		for r := api.Eq; r <= api.Same; r++ {
			t := api.Test{Rel: r, Var: a.Var, Sym: a.Sym}
			change(func(p *api.Prod) { p.Conds[4].Attr = tests(t) })
			change(func(p *api.Prod) { p.Conds[4].Value = tests(t) })
			change(func(p *api.Prod) { p.Conds[4].Value = tests(n(5), t) })
			change(func(p *api.Prod) { p.Conds[4].Attr = tests(w("z"), t) })
			change(func(p *api.Prod) { p.Conds[4].Attr, p.Conds[4].Value = tests(w("z"), t), nil })
		}
		for pref := api.Better; pref <= api.Alike; pref++ {
			change(func(p *api.Prod) { p.Acts[0].Pref, p.Acts[0].Other = pref, a })
		}
		change(func(p *api.Prod) { p.Acts[0].Attr = a })
		change(func(p *api.Prod) { p.Acts[0].Value.A = a })
		for op := api.Add; op <= api.Mul && a.Sym.Kind != api.Str; op++ {
			change(func(p *api.Prod) { p.Acts[0].Value = term(op, a, an(1)) })
			change(func(p *api.Prod) { p.Acts[0].Value = term(op, an(11), a) })
		}
	}
	for pref := api.Accept; pref <= api.Indiff; pref++ {
		change(func(p *api.Prod) { p.Acts[0].Pref = pref })
	}
	for i := range 4 {
		change(func(p *api.Prod) { p.Conds[4].Kind = api.Neg - i%2; p.Conds[4].Goal = i >= 2 })
		change(func(p *api.Prod) { p.Conds[4].Kind = api.Neg - i%2; p.Conds[4].Goal = i >= 2; p.Conds[4].Acc = true })
		change(func(p *api.Prod) { p.Conds[3].Conds = p.Conds[3].Conds[:1]; p.Name = "x" + strconv.Itoa(i) })
		change(func(p *api.Prod) { p.Conds[4].Id = "x" + strconv.Itoa(i) })
		change(func(p *api.Prod) { p.Acts[i].Id = "x" })
	}
	change(func(p *api.Prod) { p.Conds[4].Value = nil })
	change(func(p *api.Prod) { p.Conds[4].Value = tests(in(number(5))) })
	change(func(p *api.Prod) { p.Conds[4].Value = tests(in(number(5), number(5))) })
	change(func(p *api.Prod) { p.Conds[4].Value = tests(in(number(5)), in(number(5))) })
	change(func(p *api.Prod) { p.Conds[4] = all(p.Conds[4]) })
	change(func(p *api.Prod) { p.Conds[4] = all(all(p.Conds[4])) })
	change(func(p *api.Prod) { p.Conds[3].Conds = p.Conds[3].Conds[:1] })
	change(func(p *api.Prod) { p.Conds[3] = p.Conds[3].Conds[1] })
	change(func(p *api.Prod) { p.Conds[3].Conds = append(p.Conds[3].Conds[:1], p.Conds[3].Conds[1].Conds...) })
	change(func(p *api.Prod) { p.Conds = append(p.Conds[:3], append(p.Conds[3].Conds, p.Conds[4])...) })
	change(func(p *api.Prod) { p.Conds[3], p.Conds[4] = p.Conds[4], p.Conds[3] })
	change(func(p *api.Prod) { p.Acts = p.Acts[1:] })
	return l
}

func TestDifferentProductionsHaveDifferentTexts(t *testing.T) {
	texts := map[string]api.Prod{}
	for _, p := range variants() {
		text := read(t, p)
		if q, ok := texts[text]; ok && !reflect.DeepEqual(p, q) {
			t.Errorf("two productions have the text\n%s", text)
		}
		texts[text] = p
	}
	if len(texts) < 300 {
		t.Errorf("there are too few: %d", len(texts))
	}
}

// A text may be longer than a text may be that is to be read.
func TestTextOfTheLongestProduction(t *testing.T) {
	var l []api.Sym
	for range api.MaxList {
		l = append(l, word(longest))
	}
	c := pos(longest, tests(in(l...), in(l...), in(l...), in(l...)), in(l...), in(l...), in(l...), in(l...))
	p := api.Prod{Name: longest, Conds: slices.Repeat([]api.Cond{c}, api.MaxConds), Acts: whole().Acts}
	text := read(t, p)
	if len(text) <= api.MaxText {
		t.Errorf("the text has %d bytes", len(text))
	}
}

// R1

func TestPartsThatMayNotBe(t *testing.T) {
	for _, k := range []int{0, -1, 4, 9, 11, 77, math.MaxInt, math.MinInt} {
		show.Cond(api.Cond{Kind: k, Id: "-", Attr: tests(api.Test{Rel: k, Var: "A", Sym: id("s", k)}), Value: tests(in(api.Sym{Kind: k})), Conds: []api.Cond{{}, {Kind: k}}})
		show.Cond(pos("", nil, api.Test{Rel: k}, api.Test{Rel: k, List: []api.Sym{{}}}))
		show.Act(api.Act{Value: api.Term{Op: k, B: aw("-")}, Pref: k, Other: an(k)})
	}
	show.Cond(api.Cond{})
	show.Cond(all())
	show.Act(api.Act{})
}

func TestCondNestedVeryDeep(t *testing.T) {
	const depth = 1<<16 - 1
	c := pos("s", x())
	for range depth {
		c = all(c)
	}
	equal(t, "the text", show.Cond(c) == strings.Repeat("-{", depth)+"(<s> ^x)"+strings.Repeat("}", depth), true)
}

// R4

func TestArgumentsStay(t *testing.T) {
	p := whole()
	p.Conds = slices.Grow(p.Conds, 3)
	behind := p.Conds[:len(p.Conds)+1]
	behind[len(p.Conds)] = neg("behind", x())
	text, _ := show.Prod(p)
	equal(t, "the text", text, wholeText)
	for _, c := range p.Conds {
		show.Cond(c)
	}
	for _, a := range p.Acts {
		show.Act(a)
	}
	if !reflect.DeepEqual(p, whole()) || !reflect.DeepEqual(behind[len(p.Conds)], neg("behind", x())) {
		t.Errorf("the argument was changed: %+v", p)
	}
}
