package shape_test

import (
	"slices"
	"testing"

	"ponder/api"
	"ponder/shape"
)

// counted is what Each yields.
type counted struct {
	count int
	cond  api.Cond
}

// eachOf returns what a loop over Each yields, most at most (below 0: all).
func eachOf(l []api.Cond, most int) []counted {
	var got []counted
	for k, c := range shape.Each(l) {
		got = append(got, counted{k, c})
		if len(got) == most {
			break
		}
	}
	return got
}

// flat puts the conditions of l behind m, in the order in which they are counted.
func flat(m []counted, l []api.Cond) []counted {
	for _, c := range l {
		m = append(m, counted{len(m), c})
		m = flat(m, c.Conds)
	}
	return m
}

// P6.3

func TestSize(t *testing.T) {
	equal(t, "Size of nothing", shape.Size(nil), 0)
	equal(t, "Size of an empty list", shape.Size(whole().Conds[:0]), 0)
	equal(t, "Size of the whole production", shape.Size(whole().Conds), wholeSize)
	for n := range 50 {
		equal(t, "Size of conditions", shape.Size(xs(n)), n)
		equal(t, "Size of an All", shape.Size([]api.Cond{all(xs(n)...)}), n+1)
		equal(t, "Size of nested ones", shape.Size([]api.Cond{nested(n), nested(2 * n)}), 3*n+2)
	}
	c := pos("s", x())
	c.Conds = []api.Cond{{Kind: 77, Conds: xs(3)}, {}}
	equal(t, "Size of conditions that may not be", shape.Size([]api.Cond{c, {}}), 7)
	equal(t, "Size of shared ones", shape.Size(shared(15)), 1<<16-2)
	equal(t, "Size of the deepest ones", shape.Size([]api.Cond{nested(1<<16 - 1)}), 1<<16)
	equal(t, "Size of a million", shape.Size(xs(1000000)), 1000000)
}

func TestEach(t *testing.T) {
	alike(t, "Each of nothing", eachOf(nil, -1), []counted{})
	l := whole().Conds
	alike(t, "Each of the whole production", eachOf(l, -1), []counted{
		{0, l[0]}, {1, l[1]}, {2, l[2]}, {3, l[3]}, {4, l[3].Conds[0]}, {5, l[3].Conds[1]}, {6, l[3].Conds[1].Conds[0]}, {7, l[3].Conds[1].Conds[1]}, {8, l[4]},
	})
	wrong := []api.Cond{{}, {Kind: 77, Id: "-", Conds: []api.Cond{{Kind: api.Neg, Conds: []api.Cond{{Acc: true}}}, {Goal: true}}}, {Kind: api.All}}
	alike(t, "Each of conditions that may not be", eachOf(wrong, -1), []counted{
		{0, wrong[0]}, {1, wrong[1]}, {2, wrong[1].Conds[0]}, {3, wrong[1].Conds[0].Conds[0]}, {4, wrong[1].Conds[1]}, {5, wrong[2]},
	})
	for n := range 40 {
		l := []api.Cond{nested(n), all(xs(n)...), nested(n / 2)}
		alike(t, "Each of many", eachOf(l, -1), flat(nil, l))
	}
}

func TestEachOfVeryMany(t *testing.T) {
	l := []api.Cond{all(xs(300000)...), nested(300)}
	n := 0
	for k, c := range shape.Each(l) {
		if k != n || len(c.Conds) == 0 && c.Id != "s" {
			t.Fatalf("the condition %d: got %d, %+v", n, k, c)
		}
		n++
	}
	equal(t, "how many there were", n, 300302)
	n = 0
	for range shape.Each([]api.Cond{nested(1<<16 - 1)}) {
		n++
		if n == 3 {
			break
		}
	}
	equal(t, "how many of the deepest ones were taken", n, 3)
}

func TestEachIsLeftEarly(t *testing.T) {
	l := whole().Conds
	want := flat(nil, l)
	for n := 1; n <= len(want); n++ {
		alike(t, "the conditions, left", eachOf(l, n), want[:n])
		calls := 0
		shape.Each(l)(func(int, api.Cond) bool {
			calls++
			return calls != n
		})
		equal(t, "how many were yielded", calls, n)
	}
}

func TestEachIsRangedOverAgain(t *testing.T) {
	want := flat(nil, whole().Conds)
	seq := shape.Each(whole().Conds)
	for n := range want {
		k := 0
		for count, c := range seq {
			alike(t, "a condition", []counted{{count, c}}, want[k:k+1])
			if k == n {
				break
			}
			k++
		}
	}
	var outer []counted
	for count, c := range seq {
		var inner []counted
		for count, c := range seq {
			inner = append(inner, counted{count, c})
		}
		alike(t, "the conditions, in a loop over them", inner, want)
		outer = append(outer, counted{count, c})
	}
	alike(t, "the conditions, with loops within", outer, want)
}

// R4

func TestEachKeepsNoArgument(t *testing.T) {
	l := whole().Conds
	seq := shape.Each(l)
	spoil(l)
	k, want := 0, flat(nil, whole().Conds)
	for count, c := range seq {
		alike(t, "a condition", []counted{{count, c}}, want[k:k+1])
		k++
	}
	equal(t, "how many there were", k, wholeSize)
}

func TestEachYieldsNewMemory(t *testing.T) {
	l := whole().Conds
	seq := shape.Each(l)
	want := flat(nil, whole().Conds)
	for range 2 {
		k := 0
		for count, c := range seq {
			alike(t, "a condition, after others were written into", []counted{{count, c}}, want[k:k+1])
			spoil([]api.Cond{c})
			k++
		}
		alike(t, "the conditions that were given", l, whole().Conds)
	}
	kept := eachOf(l, -1)
	for i := range kept {
		spoil([]api.Cond{kept[i].cond})
		alike(t, "the conditions that were kept", kept[i+1:], want[i+1:])
	}
}

func TestConsts(t *testing.T) {
	p := whole()
	want := []api.Sym{
		word("operator"), word("name"), word("red"), number(-3), word("red"),
		word("x"), word("y"), number(7), word("y"), word("x"), word("z"), number(5),
		word("y"), word("w"), word("y"), number(0), word("y"), number(1), word("y"), number(2), word("y"), number(3), number(-4),
		word("y"), word("y"), word("y"), word("v"), word("y"), number(6),
	}
	alike(t, "the constants of the whole production", slices.Collect(shape.Consts(p)), want)
	alike(t, "the constants of nothing", slices.Collect(shape.Consts(api.Prod{})), []api.Sym{})
	p.Name = "-"
	alike(t, "the constants of a production without a name", slices.Collect(shape.Consts(p)), want)
	p.Acts = nil
	alike(t, "the constants of conditions", slices.Collect(shape.Consts(p)), want[:12])
	p = whole()
	p.Conds = nil
	alike(t, "the constants of actions", slices.Collect(shape.Consts(p)), want[12:])
	p = with(pos("s", tests(v("a")), rel(api.Ne, "a")))
	p.Acts = []api.Act{act("s", av("a"), plain(av("a")))}
	alike(t, "the constants beside variables", slices.Collect(shape.Consts(p)), []api.Sym{word("x")})
}

// Which of the symbols are constants goes by their kind alone, wherever they are.
func TestConstsOfWhatMayNotBe(t *testing.T) {
	p := api.Prod{
		Conds: []api.Cond{
			{Kind: api.All, Attr: tests(w("a")), Value: tests(than(77, word("B")), than(api.Lt, id("S", 1)), n(api.MaxInt+1)), Conds: []api.Cond{
				{Kind: 77, Value: tests(in(number(1), id("S", 2), word("-"), id("", 0)))},
			}},
			{Kind: api.Neg, Attr: tests(api.Test{Rel: api.Eq, Var: "v", Sym: word("b")}, api.Test{}), Conds: []api.Cond{pos("-", tests(n(2), n(2)))}},
		},
		Acts: []api.Act{
			{Attr: api.Atom{Var: "v", Sym: word("c")}, Value: term(api.Plain, api.Atom{Sym: id("S", 3)}, an(3)), Pref: api.Accept, Other: aw("d")},
			{},
			{Attr: api.Atom{Sym: id("S", 4)}, Value: term(77, aw("E"), an(4)), Other: api.Atom{Sym: api.Sym{Kind: 4, Text: "f", N: 5}}},
		},
	}
	alike(t, "the constants", slices.Collect(shape.Consts(p)), []api.Sym{
		word("a"), word("B"), number(api.MaxInt + 1), number(1), word("-"), word("b"), number(2), number(2),
		word("c"), number(3), word("d"), word("E"), number(4), {Kind: 4, Text: "f", N: 5},
	})
}

func TestConstsOfVeryMany(t *testing.T) {
	n := 0
	for range shape.Consts(prod(xs(300000)...)) {
		n++
	}
	equal(t, "how many of a wide production", n, 300002)
	n = 0
	for range shape.Consts(prod(nested(1<<16 - 1))) {
		n++
	}
	equal(t, "how many of a deep one", n, 3)
}

func TestConstsAreLeftEarly(t *testing.T) {
	want := slices.Collect(shape.Consts(whole()))
	seq := shape.Consts(whole())
	for n := 1; n <= len(want); n++ {
		var got []api.Sym
		seq(func(s api.Sym) bool {
			got = append(got, s)
			return len(got) != n
		})
		alike(t, "the constants, left", got, want[:n])
		alike(t, "the constants, again", slices.Collect(seq), want)
	}
	for s := range seq {
		alike(t, "the constants, in a loop over them", slices.Collect(seq), want)
		equal(t, "the first one", s, want[0])
		break
	}
}

func TestConstsKeepNoArgument(t *testing.T) {
	p := whole()
	seq := shape.Consts(p)
	spoil(p.Conds)
	for i := range p.Acts {
		p.Acts[i] = api.Act{Attr: aw("spoilt")}
	}
	alike(t, "the constants", slices.Collect(seq), slices.Collect(shape.Consts(whole())))
}
