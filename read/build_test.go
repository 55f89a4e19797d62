package read_test

import (
	"fmt"
	"slices"
	"strings"
	"testing"

	"ponder/api"
)

func equal[V comparable](t *testing.T, what string, got, want V) {
	t.Helper()
	if got != want {
		t.Errorf("%s:\n got %s\nwant %s", short(what), short(fmt.Sprint(got)), short(fmt.Sprint(want)))
	}
}

// short keeps what is told of a long text readable.
func short(text string) string {
	if len(text) > 2000 {
		return text[:1000] + " .. " + text[len(text)-1000:]
	}
	return text
}

// longest has as many bytes as a name may have.
var longest = "a" + strings.Repeat("-_09z", api.MaxName)[:api.MaxName-1]

func id(letter string, n int) api.Sym {
	return api.Sym{Kind: api.Id, Text: letter, N: n}
}

func number(n int) api.Sym {
	return api.Sym{Kind: api.Int, N: n}
}

func word(text string) api.Sym {
	return api.Sym{Kind: api.Str, Text: text}
}

// v is a test of a variable, w one of a word, n one of a number.

func v(name string) api.Test {
	return rel(api.Eq, name)
}

func w(text string) api.Test {
	return than(api.Eq, word(text))
}

func n(i int) api.Test {
	return than(api.Eq, number(i))
}

func rel(r int, name string) api.Test {
	return api.Test{Rel: r, Var: name}
}

func than(r int, s api.Sym) api.Test {
	return api.Test{Rel: r, Sym: s}
}

func in(l ...api.Sym) api.Test {
	return api.Test{Rel: api.In, List: l}
}

func tests(l ...api.Test) []api.Test {
	return l
}

func pos(id string, attr []api.Test, value ...api.Test) api.Cond {
	return api.Cond{Kind: api.Pos, Id: id, Attr: attr, Value: value}
}

func neg(id string, attr []api.Test, value ...api.Test) api.Cond {
	return api.Cond{Kind: api.Neg, Id: id, Attr: attr, Value: value}
}

func all(l ...api.Cond) api.Cond {
	return api.Cond{Kind: api.All, Conds: l}
}

// with turns on what is asked for by name.
func with(c api.Cond, names ...string) api.Cond {
	c.Goal = slices.Contains(names, "state")
	c.Acc = slices.Contains(names, "+")
	return c
}

// x is the attribute of most conditions.
func x() []api.Test {
	return tests(w("x"))
}

func av(name string) api.Atom {
	return api.Atom{Var: name}
}

func aw(text string) api.Atom {
	return api.Atom{Sym: word(text)}
}

func an(i int) api.Atom {
	return api.Atom{Sym: number(i)}
}

func plain(a api.Atom) api.Term {
	return api.Term{A: a}
}

func term(op int, a, b api.Atom) api.Term {
	return api.Term{Op: op, A: a, B: b}
}

func act(id string, attr api.Atom, value api.Term, pref int, other ...api.Atom) api.Act {
	a := api.Act{Id: id, Attr: attr, Value: value, Pref: pref}
	for _, o := range other {
		a.Other = o
	}
	return a
}

// whole has each kind of part.
func whole() api.Prod {
	return api.Prod{
		Name: "whole-1",
		Conds: []api.Cond{
			with(pos("s", tests(w("operator")), v("o")), "state", "+"),
			pos("o", tests(v("a"), rel(api.Ne, "o"), than(api.Ne, word("name"))), v("b"), rel(api.Same, "a"), in(word("red"), number(-3), word("red"))),
			neg("o", tests(in(word("x"), word("y"))), than(api.Lt, number(7)), rel(api.Ge, "b"), v("c"), rel(api.Le, "c")),
			all(
				pos("s", tests(w("y")), v("d")),
				all(
					with(neg("d", x()), "+"),
					pos("d", tests(v("e")), rel(api.Gt, "b")),
				),
			),
			pos("s", tests(w("z")), n(5)),
		},
		Acts: []api.Act{
			act("s", aw("y"), plain(av("new")), api.Accept),
			act("s", av("a"), plain(aw("w")), api.Reject),
			act("new", an(-1), plain(an(0)), api.Require),
			act("s", aw("y"), term(api.Add, av("b"), an(1)), api.Prohibit),
			act("s", aw("y"), term(api.Sub, an(2), av("a")), api.Best),
			act("s", aw("y"), term(api.Mul, an(3), an(-4)), api.Worst),
			act("s", aw("y"), plain(av("o")), api.Indiff),
			act("s", aw("y"), plain(av("o")), api.Better, av("other")),
			act("s", aw("y"), plain(av("o")), api.Worse, aw("v")),
			act("s", aw("y"), plain(av("o")), api.Alike, an(-6)),
		},
	}
}

// wholeText is as chapter 7 has it.
const wholeText = `sp {whole-1
  (state <s> ^operator <o> +)
  (<o> ^{ <a> <> <o> <> name } { <b> <=> <a> << red -3 red >> })
  -(<o> ^<< x y >> { < 7 >= <b> <c> <= <c> })
  -{(<s> ^y <d>) -{-(<d> ^x +) (<d> ^<e> > <b>)}}
  (<s> ^z 5)
-->
  (<s> ^y <new> +)
  (<s> ^<a> w -)
  (<new> ^-1 0 !)
  (<s> ^y (+ <b> 1) ~)
  (<s> ^y (- 2 <a>) >)
  (<s> ^y (* 3 -4) <)
  (<s> ^y <o> =)
  (<s> ^y <o> > <other>)
  (<s> ^y <o> < v)
  (<s> ^y <o> = -6)
}
`

// steps returns a function that yields numbers below its argument: many and mixed, but each time the same.
func steps(seed uint64) func(below int) int {
	return func(below int) int {
		seed = seed*6364136223846793005 + 1442695040888963407
		return int(seed >> 33 % uint64(below))
	}
}

// told takes nil and an empty list as the same.
func told(l ...api.Prod) string {
	var b strings.Builder
	for _, p := range l {
		fmt.Fprintf(&b, "%+v\n", p)
	}
	return b.String()
}
