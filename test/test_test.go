package test_test

import (
	"math"
	"slices"
	"strconv"
	"testing"

	"ponder/api"
	"ponder/test"
)

// rels are the relations, and numbers that are none.
func rels() []int {
	return []int{math.MinInt, -1, 0, api.Eq, api.Ne, api.Lt, api.Le, api.Gt, api.Ge, api.Same, api.In, 9, 10, math.MaxInt}
}

// symbols are some of each kind, those that are not valid included.
func symbols() []api.Sym {
	return []api.Sym{
		{}, id("S", 1), id("S", 2), id("T", 1), id("", 0),
		number(0), number(1), number(-1), number(7), number(api.MaxInt), number(-api.MaxInt), number(math.MaxInt), number(math.MinInt),
		word("a"), word("b"), word("ab"), word("s"), word(""),
		{Kind: api.Int, Text: "x", N: 1}, {Kind: api.Str, Text: "a", N: 1}, {Kind: 4, Text: "a"}, {Kind: 4, N: 1}, {Kind: -1}, {N: 1}, {Text: "a"},
	}
}

func told(s api.Sym) string {
	return strconv.Itoa(s.Kind) + ":" + s.Text + ":" + strconv.Itoa(s.N)
}

// P9.1

func TestHolds(t *testing.T) {
	s1, s2, t1 := id("S", 1), id("S", 2), id("T", 1)
	for _, c := range []struct {
		a, b api.Sym
		want string // the relations that hold, of 1 to 8
	}{
		{s1, s1, "17"},
		{s1, s2, "27"},
		{s1, t1, "27"},
		{s1, number(1), "2"},
		{number(1), s1, "2"},
		{s1, word("s"), "2"},
		{number(3), number(3), "1467"},
		{number(3), number(4), "2347"},
		{number(4), number(3), "2567"},
		{number(-3), number(3), "2347"},
		{number(3), number(-3), "2567"},
		{number(-4), number(-3), "2347"},
		{number(0), number(0), "1467"},
		{number(api.MaxInt), number(-api.MaxInt), "2567"},
		{number(math.MinInt), number(math.MaxInt), "2347"},
		{number(math.MaxInt), number(math.MinInt), "2567"},
		{number(math.MaxInt), number(-1), "2567"},
		{word("a"), word("a"), "17"},
		{word("a"), word("b"), "27"},
		{word("b"), word("a"), "27"},
		{word("a"), number(1), "2"},
		{number(0), word(""), "2"},
		{id("", 0), number(0), "2"},
		{api.Sym{}, api.Sym{}, "17"},
		{api.Sym{}, s1, "2"},
		{api.Sym{}, number(0), "2"},
		// The N alone is held against the N of another number, and the kind says what a number is.
		{api.Sym{Kind: api.Int, Text: "x", N: 1}, number(1), "2467"},
		{api.Sym{Kind: 4, N: 1}, api.Sym{Kind: 4, N: 2}, "27"},
	} {
		got := ""
		for r := 1; r <= 8; r++ {
			if test.Holds(r, c.a, c.b) {
				got += strconv.Itoa(r)
			}
		}
		equal(t, "what holds of "+told(c.a)+" to "+told(c.b), got, c.want)
	}
}

func TestHoldsOfAllSymbols(t *testing.T) {
	for _, r := range rels() {
		for _, a := range symbols() {
			for _, b := range symbols() {
				equal(t, "whether "+told(a)+" has "+strconv.Itoa(r)+" to "+told(b), test.Holds(r, a, b), holdsByRules(r, a, b))
			}
		}
	}
}

func TestHoldsOfNoOtherRelation(t *testing.T) {
	for r := -300; r <= 300; r++ {
		if r >= api.Eq && r <= api.Same {
			continue
		}
		for _, a := range symbols() {
			equal(t, "whether it has "+strconv.Itoa(r)+" to itself", test.Holds(r, a, a), false)
			equal(t, "whether it has "+strconv.Itoa(r)+" to another one", test.Holds(r, a, number(5)), false)
		}
	}
}

func TestGet(t *testing.T) {
	l := binds(bind("s", id("S", 1)), bind("x", number(4)), bind("s", id("S", 2)), bind("sx", word("a")), bind("x", number(5)), bind("zero", api.Sym{}))
	for _, c := range []struct {
		name string
		want api.Sym
		ok   bool
	}{
		{"s", id("S", 1), true},
		{"x", number(4), true},
		{"sx", word("a"), true},
		{"zero", api.Sym{}, true},
		{"y", api.Sym{}, false},
		{"xs", api.Sym{}, false},
		{"S", api.Sym{}, false},
		{"zer", api.Sym{}, false},
		{"zeroo", api.Sym{}, false},
		{"", api.Sym{}, false},
	} {
		got, ok := test.Get(l, c.name)
		equal(t, "what "+c.name+" stands for", got, c.want)
		equal(t, "whether "+c.name+" is known", ok, c.ok)
	}
	for _, l := range [][]api.Bind{nil, {}} {
		got, ok := test.Get(l, "s")
		equal(t, "what s stands for by no bindings", got, api.Sym{})
		equal(t, "whether s is known by them", ok, false)
	}
}

func TestGetReadsNothingBehindTheBindings(t *testing.T) {
	l, whole := roomy(binds(bind("s", id("S", 1))), bind("x", number(4)))
	_, ok := test.Get(l, "x")
	equal(t, "whether what stands behind the bindings is known", ok, false)
	same(t, "the memory", whole, binds(bind("s", id("S", 1)), bind("x", number(4)), bind("x", number(4)), bind("x", number(4))))
}

// P9.2

// known has x for 4, s for S2, x once more for 5.
func known() []api.Bind {
	return binds(bind("x", number(4)), bind("s", id("S", 2)), bind("x", number(5)))
}

func TestOne(t *testing.T) {
	s1, s2 := id("S", 1), id("S", 2)
	for _, c := range []struct {
		what string
		t    api.Test
		s    api.Sym
		ok   bool
		more []api.Bind
	}{
		{"the example, another one", rel(api.Ne, "s"), s1, true, nil},
		{"the example, that one", rel(api.Ne, "s"), s2, false, nil},
		{"Eq of a known one", v("x"), number(4), true, nil},
		{"Eq of the second one of a name", v("x"), number(5), false, nil},
		{"Eq of an unknown one", v("y"), number(4), true, binds(bind("y", number(4)))},
		{"Eq of an unknown one, the zero symbol", v("y"), api.Sym{}, true, binds(bind("y", api.Sym{}))},
		{"Lt of a known one", rel(api.Lt, "x"), number(3), true, nil},
		{"Lt of a known one, not less", rel(api.Lt, "x"), number(4), false, nil},
		{"Le of a known one", rel(api.Le, "x"), number(4), true, nil},
		{"Le of a known one, greater", rel(api.Le, "x"), number(5), false, nil},
		{"Gt of a known one", rel(api.Gt, "x"), number(5), true, nil},
		{"Gt of a known one, not greater", rel(api.Gt, "x"), number(4), false, nil},
		{"Ge of a known one", rel(api.Ge, "x"), number(4), true, nil},
		{"Ge of a known one, less", rel(api.Ge, "x"), number(3), false, nil},
		{"Lt of what is no number", rel(api.Lt, "s"), number(3), false, nil},
		{"Same of a known one", rel(api.Same, "s"), s1, true, nil},
		{"Same of a known one of another kind", rel(api.Same, "s"), number(2), false, nil},
		{"Ne of an unknown one", rel(api.Ne, "y"), number(4), false, nil},
		{"Lt of an unknown one", rel(api.Lt, "y"), number(4), false, nil},
		{"Le of an unknown one", rel(api.Le, "y"), number(4), false, nil},
		{"Gt of an unknown one", rel(api.Gt, "y"), number(4), false, nil},
		{"Ge of an unknown one", rel(api.Ge, "y"), number(4), false, nil},
		{"Same of an unknown one", rel(api.Same, "y"), number(4), false, nil},
		{"Eq of a symbol", w("a"), word("a"), true, nil},
		{"Eq of another symbol", w("a"), word("b"), false, nil},
		{"Eq of the zero symbol", api.Test{Rel: api.Eq}, api.Sym{}, true, nil},
		{"Eq of the zero symbol, not that", api.Test{Rel: api.Eq}, number(0), false, nil},
		{"Ne of a symbol", than(api.Ne, word("a")), word("b"), true, nil},
		{"Ge of a symbol", than(api.Ge, number(4)), number(4), true, nil},
		{"Gt of a symbol", than(api.Gt, number(4)), number(4), false, nil},
		{"Same of a symbol", than(api.Same, number(4)), number(9), true, nil},
		{"In", in(number(1), word("a"), s1), word("a"), true, nil},
		{"In, the first", in(number(1), word("a"), s1), number(1), true, nil},
		{"In, the last", in(number(1), word("a"), s1), s1, true, nil},
		{"In, none of them", in(number(1), word("a"), s1), s2, false, nil},
		{"In of none", in(), api.Sym{}, false, nil},
		{"In with a variable that stands for it", api.Test{Rel: api.In, Var: "x", List: []api.Sym{number(1)}}, number(4), false, nil},
		{"In with a variable that stands for another one", api.Test{Rel: api.In, Var: "x", List: []api.Sym{number(1)}}, number(1), true, nil},
		{"In with an unknown variable", api.Test{Rel: api.In, Var: "y", List: []api.Sym{number(1)}}, number(1), true, nil},
		{"In with that symbol", api.Test{Rel: api.In, Sym: number(4), List: []api.Sym{number(1)}}, number(4), false, nil},
		{"Eq with a list", api.Test{Rel: api.Eq, Sym: number(1), List: []api.Sym{number(4)}}, number(4), false, nil},
		{"Eq with a known variable and a symbol", api.Test{Rel: api.Eq, Var: "x", Sym: number(1)}, number(1), false, nil},
		{"Eq with an unknown variable and a symbol", api.Test{Rel: api.Eq, Var: "y", Sym: number(1)}, number(4), true, binds(bind("y", number(4)))},
		{"Ne with an unknown variable and a symbol", api.Test{Rel: api.Ne, Var: "y", Sym: number(1)}, number(4), false, nil},
		{"no relation, a known variable", rel(0, "x"), number(4), false, nil},
		{"no relation, an unknown variable", rel(0, "y"), number(4), false, nil},
		{"no relation, a symbol", than(0, number(4)), number(4), false, nil},
		{"no relation, a list", api.Test{Rel: 9, List: []api.Sym{number(4)}}, number(4), false, nil},
	} {
		got, ok := test.One(c.t, c.s, known())
		equal(t, c.what, ok, c.ok)
		var want []api.Bind
		if c.ok {
			want = slices.Concat(known(), c.more)
		}
		same(t, c.what+": the bindings", got, want)
		equal(t, c.what+": whether beside a false there is a list", !ok && got != nil, false)
	}
}

func TestOneOfAllTests(t *testing.T) {
	lists := [][]api.Bind{
		nil, binds(), known(),
		binds(bind("", word("a"))),
		binds(bind("y", word("a")), bind("y", number(1))),
		binds(bind("x", api.Sym{})),
	}
	for _, r := range rels() {
		for _, name := range []string{"", "x", "y"} {
			for _, other := range symbols() {
				k := api.Test{Rel: r, Var: name, Sym: other, List: []api.Sym{other, number(7)}}
				for _, s := range symbols() {
					for _, l := range lists {
						got, ok := test.One(k, s, l)
						want, wantOk := oneByRules(k, s, l)
						if ok != wantOk || !slices.Equal(got, want) {
							t.Fatalf("%v of %v by %v: got %v, %v, want %v, %v", k, s, l, got, ok, want, wantOk)
						}
					}
				}
			}
		}
	}
}

// apartFrom writes into the bindings that a call returned, and behind them, and
// holds what it was given, and what another call returned, to what they were.
func apartFrom(t *testing.T, what string, l []api.Bind, call func(l []api.Bind) ([]api.Bind, bool)) {
	t.Helper()
	mark := bind("mark", word("mark"))
	given, whole := roomy(l, mark)
	before := slices.Clone(whole)
	first, ok := call(given)
	second, _ := call(given)
	equal(t, what, ok, true)
	same(t, what+": what was given", whole, before)
	want := slices.Clone(second)
	for i := range first[:cap(first)] {
		first[:cap(first)][i] = mark
	}
	first = append(first, mark, mark)
	same(t, what+": what was given, after the result was written to", whole, before)
	same(t, what+": another result", second, want)
	for i := range whole {
		whole[i] = bind("spoilt", api.Sym{})
	}
	same(t, what+": a result, after what was given was written to", second, want)
	for i, b := range second[:cap(second)][len(second):] {
		equal(t, what+": what is behind a result, at "+strconv.Itoa(i), b == mark, false)
	}
}

func TestOneReturnsNewMemory(t *testing.T) {
	for _, c := range []struct {
		what string
		t    api.Test
		s    api.Sym
	}{
		{"nothing became known", v("x"), number(4)},
		{"nothing became known by a symbol", w("a"), word("a")},
		{"nothing became known by a list", in(word("a")), word("a")},
		{"one became known", v("y"), number(6)},
	} {
		apartFrom(t, c.what, known(), func(l []api.Bind) ([]api.Bind, bool) { return test.One(c.t, c.s, l) })
	}
	apartFrom(t, "no bindings", nil, func(l []api.Bind) ([]api.Bind, bool) { return test.One(w("a"), word("a"), l) })
	apartFrom(t, "the first binding", nil, func(l []api.Bind) ([]api.Bind, bool) { return test.One(v("x"), word("a"), l) })
}

func TestOneReadsNothingBehindItsLists(t *testing.T) {
	l, whole := roomy(known(), bind("y", number(6)))
	before := slices.Clone(whole)
	got, ok := test.One(v("y"), number(1), l)
	equal(t, "a variable whose binding is behind the list", ok, true)
	same(t, "its bindings", got, append(known(), bind("y", number(1))))
	list, symbols := roomy([]api.Sym{number(1)}, number(6))
	_, ok = test.One(in(list...), number(6), l)
	equal(t, "a symbol that is behind the list", ok, false)
	same(t, "the bindings and what is behind them", whole, before)
	same(t, "the symbols and what is behind them", symbols, []api.Sym{number(1), number(6), number(6), number(6)})
}

// Bindings that were handed on grow by themselves, each from where it branches off.
func TestOneAfterAnother(t *testing.T) {
	var l []api.Bind
	for i := range 40 {
		for _, s := range []api.Sym{number(-1), number(i)} {
			one, ok := test.One(v("v"+strconv.Itoa(i)), s, l)
			two, okTwo := test.One(v("w"), word("w"), l)
			equal(t, "whether both become known", ok && okTwo, true)
			same(t, "the one", one, append(slices.Clone(l), bind("v"+strconv.Itoa(i), s)))
			same(t, "the other", two, append(slices.Clone(l), bind("w", word("w"))))
			if s.N == i {
				l = one
			}
		}
	}
	for i := range 40 {
		s, ok := test.Get(l, "v"+strconv.Itoa(i))
		equal(t, "whether it is known", ok, true)
		equal(t, "what it stands for", s, number(i))
	}
}
