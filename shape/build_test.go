package shape_test

import (
	"reflect"
	"slices"
	"strings"
	"testing"

	"ponder/api"
)

func equal[V comparable](t *testing.T, what string, got, want V) {
	t.Helper()
	if got != want {
		t.Errorf("%s: got %v, want %v", what, got, want)
	}
}

// alike holds lists of lists against each other, nil and empty being one.
func alike(t *testing.T, what string, got, want any) {
	t.Helper()
	if reflect.ValueOf(got).Len() == 0 && reflect.ValueOf(want).Len() == 0 {
		return
	}
	if !reflect.DeepEqual(got, want) {
		t.Errorf("%s:\n got %+v\nwant %+v", what, got, want)
	}
}

// longest has as many bytes as a name may have.
var longest = "a" + strings.Repeat("-_09z", api.MaxName)[:api.MaxName-1]

// wrongNames are not words, each for one reason.
func wrongNames() []string {
	return []string{"", "A", "S1", "7", "-a", "_a", "a b", "a ", "<a>", "aB", "a.b", "ä", "a\x00", longest + "z"}
}

func id(letter string, n int) api.Sym {
	return api.Sym{Kind: api.Id, Text: letter, N: n}
}

func number(n int) api.Sym {
	return api.Sym{Kind: api.Int, N: n}
}

func word(text string) api.Sym {
	return api.Sym{Kind: api.Str, Text: text}
}

// wrongConsts are not valid constants: identifiers, and symbols that are not valid.
func wrongConsts() []api.Sym {
	return []api.Sym{
		{}, id("S", 1), id("A", api.MaxSeq), id("s", 1), id("S", 0), id("", 0),
		number(api.MaxInt + 1), number(-api.MaxInt - 1), {Kind: api.Int, Text: "a"}, {Kind: api.Int, Text: "7", N: 7},
		word(""), word("A"), word("7"), word("a b"), word(longest + "z"), {Kind: api.Str, Text: "a", N: 1},
		{Kind: 4, Text: "a"}, {Kind: 4}, {Kind: -1, N: 1}, {Text: "a"}, {N: 1},
	}
}

// v is a test of a variable, w one of a word, n one of a number.

func v(name string) api.Test {
	return rel(api.Eq, name)
}

func w(text string) api.Test {
	return api.Test{Rel: api.Eq, Sym: word(text)}
}

func n(i int) api.Test {
	return api.Test{Rel: api.Eq, Sym: number(i)}
}

func rel(r int, name string) api.Test {
	return api.Test{Rel: r, Var: name}
}

func than(r int, s api.Sym) api.Test {
	return api.Test{Rel: r, Sym: s}
}

func in(l ...api.Sym) api.Test {
	return api.Test{Rel: api.In, List: l}
}

func tests(l ...api.Test) []api.Test {
	return l
}

func pos(id string, attr []api.Test, value ...api.Test) api.Cond {
	return api.Cond{Kind: api.Pos, Id: id, Attr: attr, Value: value}
}

func goal(id string, attr []api.Test, value ...api.Test) api.Cond {
	return api.Cond{Kind: api.Pos, Goal: true, Id: id, Attr: attr, Value: value}
}

func neg(id string, attr []api.Test, value ...api.Test) api.Cond {
	return api.Cond{Kind: api.Neg, Id: id, Attr: attr, Value: value}
}

func all(l ...api.Cond) api.Cond {
	return api.Cond{Kind: api.All, Conds: l}
}

// x is the attribute of most conditions.
func x() []api.Test {
	return tests(w("x"))
}

// xs are n conditions that need the variable s, each a list of its own.
func xs(n int) []api.Cond {
	var l []api.Cond
	for range n {
		l = append(l, pos("s", x()))
	}
	return l
}

// nested is a condition within n Alls.
func nested(n int) api.Cond {
	c := pos("s", x())
	for range n {
		c = all(c)
	}
	return c
}

func av(name string) api.Atom {
	return api.Atom{Var: name}
}

func aw(text string) api.Atom {
	return api.Atom{Sym: word(text)}
}

func an(i int) api.Atom {
	return api.Atom{Sym: number(i)}
}

func plain(a api.Atom) api.Term {
	return api.Term{A: a}
}

func term(op int, a, b api.Atom) api.Term {
	return api.Term{Op: op, A: a, B: b}
}

func act(id string, attr api.Atom, value api.Term) api.Act {
	return api.Act{Id: id, Attr: attr, Value: value, Pref: api.Accept}
}

func acts(n int) []api.Act {
	var l []api.Act
	for range n {
		l = append(l, act("s", aw("y"), plain(aw("z"))))
	}
	return l
}

func prod(l ...api.Cond) api.Prod {
	return api.Prod{Name: "p", Conds: l, Acts: acts(1)}
}

// whole has each kind of part: 9 conditions, of which two are first in All, and 10 actions.
func whole() api.Prod {
	return api.Prod{
		Name: "whole-1",
		Conds: []api.Cond{
			{Kind: api.Pos, Goal: true, Id: "s", Attr: tests(w("operator")), Value: tests(v("o")), Acc: true},
			pos("o", tests(v("a"), rel(api.Ne, "o"), than(api.Ne, word("name"))), v("b"), rel(api.Same, "a"), in(word("red"), number(-3), word("red"))),
			neg("o", tests(in(word("x"), word("y"))), than(api.Lt, number(7)), rel(api.Ge, "b"), v("c"), rel(api.Le, "c")),
			all(
				pos("s", tests(w("y")), v("d")),
				all(
					neg("d", x()),
					pos("d", tests(v("e")), rel(api.Gt, "b")),
				),
			),
			pos("s", tests(w("z")), n(5)),
		},
		Acts: []api.Act{
			{Id: "s", Attr: aw("y"), Value: plain(av("new")), Pref: api.Accept},
			{Id: "s", Attr: av("a"), Value: plain(aw("w")), Pref: api.Reject},
			{Id: "new", Attr: aw("y"), Value: plain(an(0)), Pref: api.Require},
			{Id: "s", Attr: aw("y"), Value: term(api.Add, av("b"), an(1)), Pref: api.Prohibit},
			{Id: "s", Attr: aw("y"), Value: term(api.Sub, an(2), av("a")), Pref: api.Best},
			{Id: "s", Attr: aw("y"), Value: term(api.Mul, an(3), an(-4)), Pref: api.Worst},
			{Id: "s", Attr: aw("y"), Value: plain(av("o")), Pref: api.Indiff},
			{Id: "s", Attr: aw("y"), Value: plain(av("o")), Pref: api.Better, Other: av("other")},
			{Id: "s", Attr: aw("y"), Value: plain(av("o")), Pref: api.Worse, Other: aw("v")},
			{Id: "s", Attr: aw("y"), Value: plain(av("o")), Pref: api.Alike, Other: an(6)},
		},
	}
}

// copied shares no list with p.
func copied(p api.Prod) api.Prod {
	p.Conds = copiedConds(p.Conds)
	p.Acts = slices.Clone(p.Acts)
	return p
}

func copiedConds(l []api.Cond) []api.Cond {
	m := slices.Clone(l)
	for i, c := range m {
		m[i].Attr, m[i].Value = copiedTests(c.Attr), copiedTests(c.Value)
		m[i].Conds = copiedConds(c.Conds)
	}
	return m
}

func copiedTests(l []api.Test) []api.Test {
	m := slices.Clone(l)
	for i, t := range m {
		m[i].List = slices.Clone(t.List)
	}
	return m
}

// spoil writes into every list within l, and behind its end.
func spoil(l []api.Cond) {
	for i := range l {
		spoilTests(l[i].Attr)
		spoilTests(l[i].Value)
		spoil(l[i].Conds)
		l[i] = api.Cond{Kind: 77, Id: "spoilt"}
	}
	for i := range l[len(l):cap(l)] {
		l[:cap(l)][len(l)+i] = api.Cond{Kind: 77, Id: "spoilt"}
	}
}

func spoilTests(l []api.Test) {
	for _, t := range l {
		for j := range t.List[:cap(t.List)] {
			t.List[:cap(t.List)][j] = word("spoilt")
		}
	}
	for i := range l[:cap(l)] {
		l[:cap(l)][i] = api.Test{Rel: 77, Var: "spoilt"}
	}
}

// steps returns a function that yields numbers below its argument: many and mixed, but each time the same.
func steps(seed uint64) func(below int) int {
	return func(below int) int {
		seed = seed*6364136223846793005 + 1442695040888963407
		return int(seed >> 33 % uint64(below))
	}
}

// shared has two conditions, each of which has the same two, and so on: 2^(levels+1) - 2 conditions in little memory.
func shared(levels int) []api.Cond {
	l := xs(2)
	for range levels - 1 {
		l = []api.Cond{all(l...), all(l...)}
	}
	return l
}
