package test_test

import (
	"iter"
	"slices"
	"strconv"
	"testing"

	"ponder/api"
	"ponder/test"
)

// P9.3

func TestCondOfTheExample(t *testing.T) {
	s1, s2 := id("S", 1), id("S", 2)
	c := pos("s", tests(w("x")), v("s"))
	got, ok := test.Cond(c, elem(s1, word("x"), s1), nil)
	equal(t, "(<s> ^x <s>) of (S1 ^x S1)", ok, true)
	same(t, "its bindings", got, binds(bind("s", s1)))
	got, ok = test.Cond(c, elem(s1, word("x"), s2), nil)
	equal(t, "(<s> ^x <s>) of (S1 ^x S2)", ok, false)
	same(t, "its bindings", got, nil)
}

// harm is a change of a condition or of an element, and whether it is still met.
type harm struct {
	what   string
	change func(c *api.Cond, e *api.Elem)
	ok     bool
}

func harms() []harm {
	return []harm{
		{"nothing", func(c *api.Cond, e *api.Elem) {}, true},
		{"a Neg", func(c *api.Cond, e *api.Elem) { c.Kind = api.Neg }, true},
		{"an All", func(c *api.Cond, e *api.Elem) { c.Kind = api.All }, false},
		{"no kind", func(c *api.Cond, e *api.Elem) { c.Kind = 0 }, false},
		{"a kind too great", func(c *api.Cond, e *api.Elem) { c.Kind = 4 }, false},
		{"a kind too small", func(c *api.Cond, e *api.Elem) { c.Kind = -1 }, false},
		{"inner conditions", func(c *api.Cond, e *api.Elem) { c.Conds = []api.Cond{{}} }, true},
		{"a tag", func(c *api.Cond, e *api.Elem) { e.Tag = 12 }, true},
		{"Goal of both", func(c *api.Cond, e *api.Elem) { c.Goal, e.Goal = true, true }, true},
		{"Goal of the condition", func(c *api.Cond, e *api.Elem) { c.Goal = true }, false},
		{"Goal of the element", func(c *api.Cond, e *api.Elem) { e.Goal = true }, true},
		{"Acc of both", func(c *api.Cond, e *api.Elem) { c.Acc, e.Acc = true, true }, true},
		{"Acc of the condition", func(c *api.Cond, e *api.Elem) { c.Acc = true }, false},
		{"Acc of the element", func(c *api.Cond, e *api.Elem) { e.Acc = true }, false},
		{"Goal and Acc", func(c *api.Cond, e *api.Elem) { c.Goal, c.Acc, e.Goal, e.Acc = true, true, true, true }, true},
		{"Goal of one, Acc of the other", func(c *api.Cond, e *api.Elem) { c.Goal, e.Acc = true, true }, false},
		{"an Id that stands for it", func(c *api.Cond, e *api.Elem) { c.Id = "t" }, true},
		{"an Id that stands for another one", func(c *api.Cond, e *api.Elem) { c.Id = "u" }, false},
		{"no Id", func(c *api.Cond, e *api.Elem) { c.Id = "" }, false},
		{"no Id of both", func(c *api.Cond, e *api.Elem) { c.Id, e.Id = "", api.Sym{} }, true},
		{"no Id of the element", func(c *api.Cond, e *api.Elem) { e.Id = api.Sym{} }, true},
		{"another attribute", func(c *api.Cond, e *api.Elem) { e.Attr = word("z") }, false},
		{"another value", func(c *api.Cond, e *api.Elem) { e.Value = number(9) }, false},
		{"no test of the attribute, so that a is not known", func(c *api.Cond, e *api.Elem) { c.Attr = nil }, false},
		{"no test of the attribute and none of a", func(c *api.Cond, e *api.Elem) { c.Attr, c.Value, e.Attr = nil, c.Value[:1], word("z") }, true},
		{"no test of the value", func(c *api.Cond, e *api.Elem) { c.Value = nil }, true},
		{"no test of both", func(c *api.Cond, e *api.Elem) { c.Attr, c.Value, e.Attr, e.Value = nil, nil, api.Sym{}, api.Sym{} }, true},
		{"a last test of the attribute", func(c *api.Cond, e *api.Elem) { c.Attr = append(c.Attr, than(api.Ne, word("y"))) }, false},
		{"a last test of the value", func(c *api.Cond, e *api.Elem) { c.Value = append(c.Value, than(api.Gt, number(5))) }, false},
		{"a test of no relation", func(c *api.Cond, e *api.Elem) { c.Value = append(c.Value, api.Test{}) }, false},
	}
}

func TestCond(t *testing.T) {
	l := binds(bind("t", id("S", 1)), bind("u", id("S", 2)))
	for _, h := range harms() {
		c := pos("s", tests(in(word("x"), word("y")), v("a")), than(api.Ge, number(3)), rel(api.Ne, "a"), than(api.Le, number(5)))
		e := elem(id("S", 1), word("y"), number(5))
		h.change(&c, &e)
		got, ok := test.Cond(c, e, l)
		want, wantOk := condByRules(c, e, l)
		equal(t, h.what, ok, h.ok)
		equal(t, h.what+", by the rules", wantOk, h.ok)
		same(t, h.what+": the bindings", got, want)
		equal(t, h.what+": whether beside a false there is a list", !ok && got != nil, false)
	}
}

func TestCondBindsInOrder(t *testing.T) {
	s1, x := id("S", 1), word("x")
	for _, c := range []struct {
		what string
		c    api.Cond
		e    api.Elem
		l    []api.Bind
		ok   bool
		more []api.Bind
	}{
		{"Id, attribute, value", pos("s", tests(v("a")), v("v")), elem(s1, x, number(1)), nil, true,
			binds(bind("s", s1), bind("a", x), bind("v", number(1)))},
		{"behind those that are known", pos("s", tests(v("a")), v("v")), elem(s1, x, number(1)), binds(bind("z", x), bind("a", x)), true,
			binds(bind("s", s1), bind("v", number(1)))},
		{"several of a field", pos("s", tests(v("b"), v("a")), v("d"), v("b"), v("c")), elem(s1, x, x), nil, true,
			binds(bind("s", s1), bind("b", x), bind("a", x), bind("d", x), bind("c", x))},
		{"the Id is known to the attribute", pos("s", tests(rel(api.Same, "s"))), elem(s1, id("T", 1), x), nil, true,
			binds(bind("s", s1))},
		{"the attribute is known to the value", pos("s", tests(v("a")), rel(api.Lt, "a")), elem(s1, number(4), number(3)), nil, true,
			binds(bind("s", s1), bind("a", number(4)))},
		{"the value is not known to the attribute", pos("s", tests(rel(api.Gt, "v")), v("v")), elem(s1, number(4), number(3)), nil, false, nil},
		{"an Eq is not known to a test ahead of it", pos("s", tests(w("x")), rel(api.Same, "v"), v("v")), elem(s1, x, x), nil, false, nil},
		{"an Eq is known to the test behind it", pos("s", tests(w("x")), v("v"), rel(api.Same, "v")), elem(s1, x, x), nil, true,
			binds(bind("s", s1), bind("v", x))},
		{"an Id, as a value, of another one", pos("s", tests(w("x")), rel(api.Ne, "s")), elem(s1, x, s1), nil, false, nil},
		{"one name in both fields", pos("s", tests(v("a")), v("a")), elem(s1, x, word("y")), nil, false, nil},
		{"one name in both fields, of one symbol", pos("s", tests(v("a")), v("a")), elem(s1, x, x), nil, true,
			binds(bind("s", s1), bind("a", x))},
		{"a name that occurs twice", pos("s", tests(w("x")), v("v")), elem(s1, x, number(2)), binds(bind("v", number(1)), bind("v", number(2))), false, nil},
		{"the first of a name that occurs twice", pos("s", tests(w("x")), v("v")), elem(s1, x, number(1)), binds(bind("v", number(1)), bind("v", number(2))), true,
			binds(bind("s", s1))},
	} {
		for _, kind := range []int{api.Pos, api.Neg} {
			c.c.Kind = kind
			got, ok := test.Cond(c.c, c.e, c.l)
			equal(t, c.what, ok, c.ok)
			var want []api.Bind
			if c.ok {
				want = slices.Concat(c.l, c.more)
			}
			same(t, c.what+": the bindings", got, want)
		}
	}
}

// maker makes parts out of few names and symbols, so that many tests are met.
type maker struct {
	next func(below int) int
}

func (m maker) sym() api.Sym {
	return []api.Sym{id("S", 1), id("S", 2), number(1), number(2), word("x"), word("y"), {}}[m.next(7)]
}

func (m maker) name() string {
	return []string{"s", "v", "w", "x", ""}[m.next(5)]
}

func (m maker) syms(most int) []api.Sym {
	var l []api.Sym
	for range m.next(most + 1) {
		l = append(l, m.sym())
	}
	return l
}

func (m maker) binds() []api.Bind {
	var l []api.Bind
	for range m.next(5) {
		l = append(l, bind(m.name(), m.sym()))
	}
	return l
}

// tests are an Eq half of the time.
func (m maker) tests() []api.Test {
	var l []api.Test
	for range m.next(4) {
		r := 1
		if m.next(2) == 0 {
			r = m.next(10)
		}
		l = append(l, api.Test{Rel: r, Var: m.name(), Sym: m.sym(), List: m.syms(5)})
	}
	return l
}

func (m maker) cond() api.Cond {
	kind := 1 + m.next(2)
	if m.next(20) == 0 {
		kind = m.next(6) - 1
	}
	return api.Cond{Kind: kind, Goal: m.next(4) == 0, Id: m.name(), Attr: m.tests(), Value: m.tests(), Acc: m.next(4) == 0}
}

func (m maker) elem() api.Elem {
	return api.Elem{Id: m.sym(), Attr: m.sym(), Value: m.sym(), Goal: m.next(2) == 0, Acc: m.next(4) == 0, Tag: m.next(9)}
}

func (m maker) elems(most int) []api.Elem {
	var l []api.Elem
	for range m.next(most + 1) {
		l = append(l, m.elem())
	}
	return l
}

func TestCondOfManyConditions(t *testing.T) {
	m := maker{steps(9)}
	met, grown := 0, 0
	for range 200000 {
		c, e, l := m.cond(), m.elem(), m.binds()
		got, ok := test.Cond(c, e, l)
		want, wantOk := condByRules(c, e, l)
		if ok != wantOk || !slices.Equal(got, want) || !ok && got != nil {
			t.Fatalf("%+v of %+v by %v: got %v, %v, want %v, %v", c, e, l, got, ok, want, wantOk)
		}
		if ok {
			met++
		}
		if len(got) > len(l)+1 {
			grown++
		}
	}
	if met < 5000 || grown < 500 {
		t.Errorf("too few are met: %d, and with several bindings: %d", met, grown)
	}
}

// What Cond says is what One says of each test, one after the other.
func TestCondIsOneAfterAnother(t *testing.T) {
	m := maker{steps(10)}
	for range 20000 {
		c, e, l := m.cond(), m.elem(), m.binds()
		c.Kind, c.Goal, c.Acc = api.Neg, false, e.Acc
		want, wantOk := test.One(v(c.Id), e.Id, l)
		for i, k := range slices.Concat(c.Attr, c.Value) {
			s := e.Attr
			if i >= len(c.Attr) {
				s = e.Value
			}
			if wantOk {
				want, wantOk = test.One(k, s, want)
			}
		}
		got, ok := test.Cond(c, e, l)
		if ok != wantOk || !slices.Equal(got, want) {
			t.Fatalf("%+v of %+v by %v: got %v, %v, want %v, %v", c, e, l, got, ok, want, wantOk)
		}
	}
}

func TestCondReturnsNewMemory(t *testing.T) {
	e := elem(id("S", 1), word("x"), number(1))
	for _, c := range []struct {
		what string
		c    api.Cond
		l    []api.Bind
	}{
		{"nothing became known", pos("s", tests(w("x"))), binds(bind("s", id("S", 1)))},
		{"nothing is known", api.Cond{Kind: api.Pos}, nil},
		{"one became known", pos("s", tests(w("x"))), binds(bind("t", id("S", 1)))},
		{"several became known", pos("s", tests(v("a"), v("b")), v("v"), v("w")), binds(bind("a", word("x")))},
		{"all became known", pos("s", tests(v("a"), v("b")), v("v"), v("w")), nil},
	} {
		if c.c.Id == "" {
			e.Id = api.Sym{}
		} else {
			e.Id = id("S", 1)
		}
		apartFrom(t, c.what, c.l, func(l []api.Bind) ([]api.Bind, bool) { return test.Cond(c.c, e, l) })
	}
}

// A condition that is not met leaves what it was given as it was, too.
func TestCondLeavesItsArgumentsAlone(t *testing.T) {
	l, whole := roomy(binds(bind("t", number(1))), bind("mark", word("mark")))
	attr, wholeAttr := roomy(tests(v("a"), v("b")), api.Test{Rel: 77})
	value, wholeValue := roomy(tests(v("c"), in(number(1), number(2)), v("a")), api.Test{Rel: 77})
	before := slices.Clone(whole)
	for _, value1 := range []api.Sym{number(1), word("x"), number(3)} {
		_, ok := test.Cond(pos("s", attr, value...), elem(id("S", 1), word("x"), value1), l)
		equal(t, "whether it is met", ok, false)
		same(t, "the bindings and what is behind them", whole, before)
	}
	_, ok := test.Cond(pos("s", attr, value[:2]...), elem(id("S", 1), word("x"), number(2)), l)
	equal(t, "whether it is met without its last test", ok, true)
	same(t, "the bindings and what is behind them", whole, before)
	for i, k := range wholeAttr[2:] {
		equal(t, "what is behind the tests of the attribute, at "+strconv.Itoa(i), k.Rel, 77)
	}
	for i, k := range wholeValue[3:] {
		equal(t, "what is behind the tests of the value, at "+strconv.Itoa(i), k.Rel, 77)
	}
}

// line has n elements: (S1 ^x 0), (S2 ^x 1), (S3 ^x 2), and so on, with tags that fall.
func line(n int) []api.Elem {
	var l []api.Elem
	for i := range n {
		e := elem(id("S", i+1), word("x"), number(i))
		e.Tag = 100 - i
		l = append(l, e)
	}
	return l
}

// few is met by the elements of line but (S2 ^x 1) and (S4 ^x 3).
func few() api.Cond {
	return pos("s", tests(w("x")), v("v"), than(api.Ne, number(1)), than(api.Ne, number(3)))
}

func TestSome(t *testing.T) {
	l := binds(bind("z", word("z")))
	want := []found{}
	for _, i := range []int{0, 2, 4} {
		want = append(want, found{line(5)[i], append(slices.Clone(l), bind("s", id("S", i+1)), bind("v", number(i)))})
	}
	sameFound(t, "some of five", everything(test.Some(few(), slices.Values(line(5)), l)), want)
	sameFound(t, "some of none", everything(test.Some(few(), slices.Values(line(0)), l)), nil)
	sameFound(t, "none of some", everything(test.Some(pos("s", tests(w("y"))), slices.Values(line(5)), l)), nil)
	twice := slices.Concat(line(1), line(1), line(3), line(1))
	want = []found{want[0], want[0], want[0], want[1], want[0]}
	sameFound(t, "the same ones again", everything(test.Some(few(), slices.Values(twice), l)), want)
	for _, kind := range []int{api.All, 0, 4, -1} {
		c := few()
		c.Kind = kind
		c.Conds = []api.Cond{few()}
		sameFound(t, "some of another kind", everything(test.Some(c, slices.Values(line(5)), l)), nil)
	}
}

// One element's bindings are not known to the next one.
func TestSomeBeginsEachElementAnew(t *testing.T) {
	c := pos("s", tests(v("a")), v("v"))
	c.Kind = api.Neg
	got := everything(test.Some(c, slices.Values(line(30)), binds(bind("a", word("x")))))
	equal(t, "how many", len(got), 30)
	for i, g := range got {
		equal(t, "the element", g.e, line(30)[i])
		same(t, "its bindings", g.l, binds(bind("a", word("x")), bind("s", id("S", i+1)), bind("v", number(i))))
	}
}

func TestSomeOfManyElements(t *testing.T) {
	m := maker{steps(11)}
	met := 0
	for range 5000 {
		c, es, l := m.cond(), m.elems(20), m.binds()
		want := someByRules(c, es, l)
		sameFound(t, "some elements", everything(test.Some(c, slices.Values(es), l)), want)
		met += len(want)
		if t.Failed() {
			return
		}
	}
	if met < 1000 {
		t.Errorf("too few are met: %d", met)
	}
}

// R4

func TestSomeYieldsListsOfTheirOwn(t *testing.T) {
	mark := bind("mark", word("mark"))
	for _, c := range []api.Cond{few(), pos("z", tests(w("x")))} {
		same5 := slices.Repeat(line(1), 5)
		given, whole := roomy(binds(bind("z", id("S", 1))), mark)
		before := slices.Clone(whole)
		want := someByRules(c, same5, given)
		equal(t, "how many are met", len(want), 5)
		seq := test.Some(c, slices.Values(same5), given)
		var got []found
		for e, l := range seq {
			got = append(got, found{e, slices.Clone(l)})
			for i := range l[:cap(l)] {
				l[:cap(l)][i] = mark
			}
			l = append(l, mark)
		}
		sameFound(t, "each one, with those ahead of it written to", got, want)
		same(t, "what was given", whole, before)
		sameFound(t, "another loop", everything(seq), want)
		kept := everything(seq)
		for i := range kept[0].l[:cap(kept[0].l)] {
			kept[0].l[:cap(kept[0].l)][i] = mark
		}
		sameFound(t, "those behind one that was written to", kept[1:], want[1:])
	}
}

// What is written into the arguments, after the call or during a loop, is not seen.
func TestSomeKeepsNothingOfItsArguments(t *testing.T) {
	args := func() (api.Cond, []api.Bind, func()) {
		l := binds(bind("z", word("x")))
		c := pos("s", tests(v("z"), in(word("x"), word("y"))), than(api.Ne, number(1)), v("v"), in(number(0), number(2), number(3)))
		return c, l, func() {
			l[0] = bind("s", word("spoilt"))
			for _, field := range [][]api.Test{c.Attr, c.Value} {
				for i, k := range field {
					for j := range k.List {
						k.List[j] = word("spoilt")
					}
					field[i] = api.Test{}
				}
			}
		}
	}
	c, l, _ := args()
	want := someByRules(c, line(5), l)
	equal(t, "how many are met", len(want), 3)

	c, l, spoil := args()
	seq := test.Some(c, slices.Values(line(5)), l)
	spoil()
	sameFound(t, "what was given was written to ahead of the loop", everything(seq), want)

	c, l, spoil = args()
	seq = test.Some(c, slices.Values(line(5)), l)
	var got []found
	for e, l := range seq {
		spoil()
		got = append(got, found{e, l})
	}
	sameFound(t, "what was given was written to in the loop", got, want)
	sameFound(t, "what was given was written to, another loop", everything(seq), want)
}

func TestSomeReadsNothingBehindItsLists(t *testing.T) {
	l, _ := roomy(binds(bind("z", word("z"))), bind("s", id("S", 3)))
	attr, _ := roomy(tests(w("x")), w("y"))
	value, _ := roomy(tests(v("v")), w("y"))
	equal(t, "how many are met", len(everything(test.Some(pos("s", attr, value...), slices.Values(line(4)), l))), 4)
	list, _ := roomy([]api.Sym{number(1)}, number(2))
	got := everything(test.Some(pos("s", attr, in(list...)), slices.Values(line(4)), l))
	equal(t, "how many are met of a list", len(got), 1)
}

// R7

// counted yields l, and counts how often it is begun and how many it has yielded.
func counted(l []api.Elem, begun, yielded *int) iter.Seq[api.Elem] {
	return func(yield func(api.Elem) bool) {
		*begun++
		for _, e := range l {
			*yielded++
			if !yield(e) {
				return
			}
		}
	}
}

func TestSomeIsLeftEarly(t *testing.T) {
	want := someByRules(few(), line(9), nil)
	for n := 1; n <= len(want); n++ {
		begun, yielded := 0, 0
		got := firsts(test.Some(few(), counted(line(9), &begun, &yielded), nil), n)
		sameFound(t, "the first ones", got, want[:n])
		equal(t, "how often the elements were begun", begun, 1)
		equal(t, "how many of them were asked for", yielded, want[n-1].e.Value.N+1)
	}
}

func TestSomeAsksForNoElementAheadOfItsLoop(t *testing.T) {
	begun, yielded := 0, 0
	seq := test.Some(few(), counted(line(9), &begun, &yielded), nil)
	equal(t, "how often the elements were begun ahead of a loop", begun, 0)
	for i := range 3 {
		yielded = 0
		for e := range seq {
			equal(t, "how many were asked for", yielded, e.Value.N+1)
		}
		equal(t, "how many were asked for in all", yielded, 9)
		equal(t, "how often they were begun", begun, i+1)
	}
}

func TestSomeIsRangedOverAgain(t *testing.T) {
	want := someByRules(few(), line(9), nil)
	seq := test.Some(few(), slices.Values(line(9)), nil)
	for n := range len(want) + 2 {
		sameFound(t, "the first ones", firsts(seq, n+1), want[:min(n+1, len(want))])
		sameFound(t, "all of them", everything(seq), want)
	}
	i := 0
	for e, l := range seq {
		sameFound(t, "a loop within the loop", everything(seq), want)
		sameFound(t, "one of the loop", []found{{e, l}}, want[i:i+1])
		i++
	}
	equal(t, "how many there were", i, len(want))
}

// The elements are those that the sequence has when a loop asks for them.
func TestSomeGoesOverTheSequenceEachTime(t *testing.T) {
	l := line(1)
	seq := test.Some(few(), func(yield func(api.Elem) bool) { slices.Values(l)(yield) }, nil)
	sameFound(t, "of one", everything(seq), someByRules(few(), line(1), nil))
	l = line(5)
	sameFound(t, "of five", everything(seq), someByRules(few(), line(5), nil))
	l = nil
	sameFound(t, "of none", everything(seq), nil)
}

func TestSomeWithinSome(t *testing.T) {
	es := []api.Elem{
		elem(id("S", 1), word("x"), id("S", 2)), elem(id("S", 2), word("x"), id("S", 3)),
		elem(id("S", 2), word("x"), id("S", 1)), elem(id("S", 3), word("x"), id("S", 3)),
	}
	got := ""
	for a, l := range test.Some(pos("a", tests(w("x")), v("b")), slices.Values(es), nil) {
		for b, l := range test.Some(pos("b", tests(w("x")), v("c"), rel(api.Ne, "a")), slices.Values(es), l) {
			c, _ := test.Get(l, "c")
			got += strconv.Itoa(a.Id.N) + strconv.Itoa(b.Id.N) + strconv.Itoa(c.N) + strconv.Itoa(len(l)) + " "
		}
	}
	equal(t, "ways of two steps", got, "1233 2333 ")
}

// A sequence that goes on where it was left is not told on.
func TestSomeOfASequenceThatGoesOn(t *testing.T) {
	heedless := func(yield func(api.Elem) bool) {
		for _, e := range line(9) {
			yield(e)
		}
	}
	want := someByRules(few(), line(9), nil)
	for n := 1; n <= len(want); n++ {
		var got []found
		for e, l := range test.Some(few(), heedless, nil) {
			got = append(got, found{e, l})
			if len(got) == n {
				break
			}
		}
		sameFound(t, "the first ones", got, want[:n])
	}
}
