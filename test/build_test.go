package test_test

import (
	"iter"
	"slices"
	"testing"

	"ponder/api"
)

func equal[V comparable](t *testing.T, what string, got, want V) {
	t.Helper()
	if got != want {
		t.Errorf("%s: got %v, want %v", what, got, want)
	}
}

// same holds lists against each other, nil and empty being one.
func same[V comparable](t *testing.T, what string, got, want []V) {
	t.Helper()
	if !slices.Equal(got, want) {
		t.Errorf("%s:\n got %v\nwant %v", what, got, want)
	}
}

func id(letter string, n int) api.Sym {
	return api.Sym{Kind: api.Id, Text: letter, N: n}
}

func number(n int) api.Sym {
	return api.Sym{Kind: api.Int, N: n}
}

func word(text string) api.Sym {
	return api.Sym{Kind: api.Str, Text: text}
}

// v is a test of a variable, w of a word, than of a symbol, in of a list.

func v(name string) api.Test {
	return rel(api.Eq, name)
}

func w(text string) api.Test {
	return than(api.Eq, word(text))
}

func rel(r int, name string) api.Test {
	return api.Test{Rel: r, Var: name}
}

func than(r int, s api.Sym) api.Test {
	return api.Test{Rel: r, Sym: s}
}

func in(l ...api.Sym) api.Test {
	return api.Test{Rel: api.In, List: l}
}

func tests(l ...api.Test) []api.Test {
	return l
}

func pos(id string, attr []api.Test, value ...api.Test) api.Cond {
	return api.Cond{Kind: api.Pos, Id: id, Attr: attr, Value: value}
}

func elem(id, attr, value api.Sym) api.Elem {
	return api.Elem{Id: id, Attr: attr, Value: value}
}

func bind(name string, s api.Sym) api.Bind {
	return api.Bind{Var: name, Sym: s}
}

func binds(l ...api.Bind) []api.Bind {
	return l
}

// roomy is a list with the members of l and with a mark behind its end, and the
// same memory as a whole.
func roomy[V any](l []V, mark V) (front, whole []V) {
	whole = slices.Concat(l, []V{mark, mark, mark})
	return whole[:len(l)], whole
}

// steps returns a function that yields numbers below its argument: many and mixed, but each time the same.
func steps(seed uint64) func(below int) int {
	return func(below int) int {
		seed = seed*6364136223846793005 + 1442695040888963407
		return int(seed >> 33 % uint64(below))
	}
}

// found is what Some yields for one element.
type found struct {
	e api.Elem
	l []api.Bind
}

// firsts are the first n of a loop that is left behind them, all of them if there
// are fewer.
func firsts(seq iter.Seq2[api.Elem, []api.Bind], n int) []found {
	var got []found
	seq(func(e api.Elem, l []api.Bind) bool {
		got = append(got, found{e, l})
		return len(got) != n
	})
	return got
}

func everything(seq iter.Seq2[api.Elem, []api.Bind]) []found {
	return firsts(seq, -1)
}

func sameFound(t *testing.T, what string, got, want []found) {
	t.Helper()
	alike := func(a, b found) bool { return a.e == b.e && slices.Equal(a.l, b.l) }
	if !slices.EqualFunc(got, want, alike) {
		t.Errorf("%s:\n got %v\nwant %v", what, got, want)
	}
}

// The following say what the chapter says, in other words than the package.

// outcomes are, of two numbers, whether the relation holds where the first one is
// less, equal, greater.
func outcomes(rel int) [3]bool {
	return map[int][3]bool{
		3: {true, false, false},
		4: {true, true, false},
		5: {false, false, true},
		6: {false, true, true},
	}[rel]
}

func holdsByRules(rel int, a, b api.Sym) bool {
	numbers := a.Kind == 2 && b.Kind == 2
	equal := a.Kind == b.Kind && a.Text == b.Text && a.N == b.N
	return rel == 1 && equal ||
		rel == 2 && !equal ||
		rel == 7 && a.Kind == b.Kind ||
		numbers && outcomes(rel)[1+number(a.N).Compare(number(b.N))]
}

// oneByRules is told the bindings with the latest in front, so that the first one
// of a name is the last one that is found.
func oneByRules(t api.Test, s api.Sym, l []api.Bind) ([]api.Bind, bool) {
	after := append([]api.Bind{}, l...)
	if t.Rel == 8 {
		for _, m := range t.List {
			if m.Compare(s) == 0 {
				return after, true
			}
		}
		return nil, false
	}
	other, known := t.Sym, t.Var == ""
	for i := range l {
		if b := l[len(l)-1-i]; t.Var != "" && b.Var == t.Var {
			other, known = b.Sym, true
		}
	}
	switch {
	case known && holdsByRules(t.Rel, s, other):
		return after, true
	case !known && t.Rel == 1:
		return append(after, api.Bind{Var: t.Var, Sym: s}), true
	}
	return nil, false
}

func condByRules(c api.Cond, e api.Elem, l []api.Bind) ([]api.Bind, bool) {
	type step struct {
		t api.Test
		s api.Sym
	}
	steps := []step{{api.Test{Rel: 1, Var: c.Id}, e.Id}}
	for _, t := range c.Attr {
		steps = append(steps, step{t, e.Attr})
	}
	for _, t := range c.Value {
		steps = append(steps, step{t, e.Value})
	}
	ok := (c.Kind == 1 || c.Kind == 2) && (e.Goal || !c.Goal) && e.Acc == c.Acc
	l = append([]api.Bind{}, l...)
	for _, p := range steps {
		if ok {
			l, ok = oneByRules(p.t, p.s, l)
		}
	}
	if !ok {
		return nil, false
	}
	return l, true
}

func someByRules(c api.Cond, es []api.Elem, l []api.Bind) []found {
	var want []found
	for _, e := range es {
		if after, ok := condByRules(c, e, l); ok {
			want = append(want, found{e, after})
		}
	}
	return want
}
