package shape_test

import (
	"strconv"
	"strings"
	"testing"

	"ponder/api"
	"ponder/shape"
)

// checked holds Check to a place and an error, and Vars to a list of names (of none beside an error).
func checked(t *testing.T, what string, p api.Prod, place int, err api.Errno, vars string) {
	t.Helper()
	gotPlace, gotErr := shape.Check(p)
	if gotPlace != place || gotErr != err {
		t.Errorf("Check of %s: got %d, %d, want %d, %d", what, gotPlace, gotErr, place, err)
	}
	alike(t, "Vars of "+what, shape.Vars(p), strings.Fields(vars))
}

func accepted(t *testing.T, what string, p api.Prod, vars string) {
	t.Helper()
	checked(t, what, p, -1, api.OK, vars)
}

func unknown(t *testing.T, what string, p api.Prod, place int) {
	t.Helper()
	checked(t, what, p, place, api.ErrVar, "")
}

// state is the condition that most productions begin with: s is known from there on.
func state() api.Cond {
	return goal("s", x())
}

// with returns a production whose first condition is state.
func with(l ...api.Cond) api.Prod {
	return prod(append([]api.Cond{state()}, l...)...)
}

// P6.2, and Vars of P6.3

func TestCheckOfTheExamples(t *testing.T) {
	unknown(t, "(<s> ^x y)", prod(pos("s", x(), w("y"))), 0)
	accepted(t, "(state <s> ^x y)", prod(goal("s", x(), w("y"))), "s")
	accepted(t, "the whole production", whole(), "s o a b")
}

func TestCheckOfShape(t *testing.T) {
	p := with(pos("t", nil))
	checked(t, "a wrong condition whose variable is not known", p, 1, api.ErrForm, "")
	p = prod(pos("s", x()), pos("s", nil))
	checked(t, "a wrong condition behind one whose variable is not known", p, 1, api.ErrForm, "")
	p = prod(neg("s", nil))
	checked(t, "a wrong first Neg", p, 0, api.ErrForm, "")
	p = prod(neg("s", x()), pos("s", make([]api.Test, 5)))
	checked(t, "a wrong condition behind a first Neg", p, 1, api.ErrMany, "")
	p = prod(neg("s", x()), nested(4))
	checked(t, "an All too deep behind a first Neg", p, 4, api.ErrNest, "")
	p = prod(pos("s", x()))
	p.Acts[0].Pref = 0
	checked(t, "a wrong action behind a condition whose variable is not known", p, 1, api.ErrForm, "")
	p = with()
	p.Name = "A"
	checked(t, "a wrong name", p, -1, api.ErrName, "")
	checked(t, "the zero production", api.Prod{}, -1, api.ErrName, "")
	p = with(xs(16)...)
	checked(t, "17 conditions", p, -1, api.ErrMany, "")
}

func TestCheckOfTheFirstCondition(t *testing.T) {
	first := neg("s", x())
	first.Goal = true
	checked(t, "a Neg with Goal alone", prod(first), 0, api.ErrForm, "")
	checked(t, "a Neg in front of a goal", prod(first, state()), 0, api.ErrForm, "")
	checked(t, "a Neg without Goal", prod(neg("s", x()), state()), 0, api.ErrForm, "")
	checked(t, "an All in front of a goal", prod(all(state()), state()), 0, api.ErrForm, "")
	checked(t, "an All of what is not known", prod(all(pos("s", x()))), 0, api.ErrForm, "")
	unknown(t, "a Pos whose Id its own Value would make known", prod(pos("s", x(), v("s")), state()), 0)
	accepted(t, "two goals", prod(goal("s", x(), v("a")), goal("t", x(), v("s"))), "s a t")
}

func TestCheckOfIds(t *testing.T) {
	unknown(t, "an Id that is not known", with(pos("t", x())), 1)
	accepted(t, "an Id from a Value", with(pos("s", x(), v("t")), pos("t", x())), "s t")
	accepted(t, "an Id from an Attr", with(pos("s", tests(v("t"))), pos("t", x())), "s t")
	unknown(t, "an Id from a Value behind it", with(pos("t", x()), pos("s", x(), v("t"))), 1)
	unknown(t, "an Id that its own Attr would make known", with(pos("t", tests(v("t")))), 1)
	unknown(t, "the Id of a Neg", with(neg("t", x())), 1)
	unknown(t, "the Id of a Neg that its own Value would make known", with(neg("t", x(), v("t"))), 1)
	unknown(t, "an Id in an All", with(all(pos("s", x()), pos("t", x()))), 3)
	accepted(t, "a goal that is known already", with(goal("s", x(), v("a")), state()), "s a")
	accepted(t, "a goal's Id, asked for by its own tests", prod(goal("s", tests(rel(api.Ne, "s")), rel(api.Same, "s"))), "s")
	c := state()
	c.Acc = true
	accepted(t, "a goal that is Acc", prod(c), "s")
}

func TestCheckOfTests(t *testing.T) {
	for r := api.Ne; r <= api.Same; r++ {
		what := " of Rel " + strconv.Itoa(r)
		unknown(t, "a Value"+what, with(pos("s", x(), rel(r, "a"))), 1)
		unknown(t, "an Attr"+what, with(pos("s", tests(rel(r, "a")))), 1)
		unknown(t, "a Value in front of the Eq"+what, with(pos("s", x(), rel(r, "a"), v("a"))), 1)
		unknown(t, "an Attr in front of the Eq"+what, with(pos("s", tests(rel(r, "a"), v("a")))), 1)
		unknown(t, "an Attr in front of the Value"+what, with(pos("s", tests(rel(r, "a")), v("a"))), 1)
		unknown(t, "a Value in front of another condition"+what, with(pos("s", x(), rel(r, "a")), pos("s", x(), v("a"))), 1)
		unknown(t, "a Value behind known ones"+what, with(pos("s", x(), v("a")), pos("s", x(), v("b"), rel(r, "a"), rel(r, "c"))), 2)
		accepted(t, "a Value behind the Eq"+what, with(pos("s", x(), v("a"), rel(r, "a"))), "s a")
		accepted(t, "an Attr behind the Eq"+what, with(pos("s", tests(v("a"), rel(r, "a")))), "s a")
		accepted(t, "a Value behind the Attr"+what, with(pos("s", tests(v("a")), rel(r, "a"))), "s a")
		accepted(t, "a Value behind another condition"+what, with(pos("s", x(), v("a")), pos("s", tests(rel(r, "a")), rel(r, "a"))), "s a")
		accepted(t, "symbols"+what, with(pos("s", tests(than(r, word("a"))), than(r, number(1)))), "s")
	}
	accepted(t, "lists", with(pos("s", tests(in(word("a"))), in(number(1), word("s")))), "s")
	unknown(t, "a variable behind a word and a list", with(pos("s", x(), w("a"), in(word("b")), rel(api.Ne, "c"))), 1)
}

func TestCheckOfNegs(t *testing.T) {
	accepted(t, "what becomes known in a Neg, there", with(neg("s", tests(v("a"), rel(api.Ne, "a")), v("b"), rel(api.Gt, "a"))), "s")
	unknown(t, "an Id from a Neg", with(neg("s", x(), v("a")), pos("a", x())), 2)
	unknown(t, "a test from a Neg", with(neg("s", x(), v("a")), pos("s", x(), rel(api.Ne, "a"))), 2)
	unknown(t, "a test from the Attr of a Neg, in another one", with(neg("s", tests(v("a"))), neg("s", x(), rel(api.Ne, "a"))), 2)
	unknown(t, "what a Neg does not know", with(neg("s", x(), rel(api.Ne, "a"))), 1)
	accepted(t, "a variable that becomes known in a Neg and behind it", with(neg("s", x(), v("a")), pos("s", x(), v("b")), pos("s", x(), v("a"))), "s b a")
	accepted(t, "a Neg that knows what is around it", with(pos("s", x(), v("a")), neg("a", tests(v("a")), rel(api.Ne, "s"))), "s a")
	c := neg("t", x(), rel(api.Ne, "t"))
	c.Goal = true
	accepted(t, "a Neg with Goal", with(c), "s")
	unknown(t, "the Id of a Neg with Goal, behind it", with(c, pos("t", x())), 2)
	unknown(t, "the Id of a Neg with Goal, in a test behind it", with(c, pos("s", x(), rel(api.Ne, "t"))), 2)
	p := with(neg("s", x(), v("a")))
	p.Acts[0].Attr = av("a")
	unknown(t, "a variable of a Neg in an action", p, 2)
}

func TestCheckOfAlls(t *testing.T) {
	accepted(t, "what becomes known within an All, there", with(all(pos("s", x(), v("a")), pos("a", x(), v("b")), neg("b", x(), rel(api.Ne, "a")))), "s")
	unknown(t, "what became known within an All", with(all(pos("s", x(), v("a"))), pos("a", x())), 3)
	unknown(t, "the same in another All", with(all(pos("s", x(), v("a"))), all(pos("a", x()))), 4)
	accepted(t, "what becomes known within an All, in one within it", with(all(pos("s", x(), v("a")), all(pos("a", x(), v("b")), all(pos("b", x()))))), "s")
	unknown(t, "what became known within an inner All, behind it", with(all(pos("s", x()), all(pos("s", x(), v("a"))), pos("a", x()))), 5)
	unknown(t, "what became known within a Neg of an All, behind it", with(all(neg("s", x(), v("a")), pos("a", x()))), 3)
	unknown(t, "a test from an inner All", with(all(all(pos("s", x(), v("a"))), neg("s", x(), rel(api.Ne, "a")))), 4)
	accepted(t, "a goal within an All", with(all(goal("t", x(), v("a")), pos("t", x()), pos("a", x()))), "s")
	unknown(t, "a goal's Id from an All", with(all(goal("t", x())), pos("t", x())), 3)
	accepted(t, "a variable that becomes known in several ones", with(all(pos("s", x(), v("a"))), neg("s", x(), v("a")), all(pos("s", x(), v("a")), pos("a", x())), pos("s", x(), v("a"))), "s a")
	accepted(t, "an All that knows what is around it", with(pos("s", x(), v("a")), all(all(pos("a", x()))), pos("a", x(), v("b"))), "s a b")
	accepted(t, "an All of a Neg alone", with(all(neg("s", x(), v("a")))), "s")
	p := with(all(pos("s", x(), v("a"))))
	p.Acts[0].Attr = av("a")
	unknown(t, "a variable of an All in an action", p, 3)
}

func TestCheckOfActions(t *testing.T) {
	p := with(pos("s", tests(v("k")), v("i")))
	for i, c := range []struct {
		act api.Act
		ok  bool
	}{
		{act("s", av("k"), plain(av("i"))), true},
		{act("new", aw("y"), plain(av("new"))), true},
		{act("new", aw("y"), plain(av("newer"))), true},
		{act("new", av("new"), plain(aw("y"))), false},
		{act("s", av("new"), plain(aw("y"))), false},
		{act("s", av("y"), plain(av("y"))), false},
		{act("s", aw("y"), term(api.Add, av("i"), av("k"))), true},
		{act("new", aw("y"), term(api.Sub, av("i"), an(1))), true},
		{act("new", aw("y"), term(api.Mul, an(1), an(2))), true},
		{act("new", aw("y"), term(api.Mul, av("new"), an(2))), false},
		{act("s", aw("y"), term(api.Add, av("new"), an(1))), false},
		{act("s", aw("y"), term(api.Sub, an(1), av("new"))), false},
		{act("s", aw("y"), term(api.Mul, av("i"), av("new"))), false},
		{api.Act{Id: "s", Attr: aw("y"), Value: plain(av("i")), Pref: api.Better, Other: av("new")}, true},
		{api.Act{Id: "new", Attr: aw("y"), Value: plain(av("other")), Pref: api.Worse, Other: av("new")}, true},
		{api.Act{Id: "s", Attr: av("new"), Value: plain(av("new")), Pref: api.Alike, Other: av("new")}, false},
	} {
		what := "the action " + strconv.Itoa(i)
		q := copied(p)
		q.Acts = append(acts(2), c.act)
		if c.ok {
			accepted(t, what, q, "s k i")
		} else {
			unknown(t, what, q, 4)
			q.Acts = append([]api.Act{c.act}, acts(2)...)
			unknown(t, what+" in front of others", q, 2)
		}
	}
}

// What an action makes is not known to any Attr or sum, of whichever action.
func TestCheckOfWhatActionsMake(t *testing.T) {
	makers := []api.Act{
		act("new", aw("y"), plain(aw("z"))),
		act("s", aw("y"), plain(av("new"))),
		{Id: "s", Attr: aw("y"), Value: plain(aw("z")), Pref: api.Better, Other: av("new")},
	}
	users := []api.Act{act("s", av("new"), plain(aw("z"))), act("s", aw("y"), term(api.Add, av("new"), an(1))), act("s", aw("y"), term(api.Add, an(1), av("new")))}
	for _, m := range makers {
		for _, u := range users {
			p := with()
			p.Acts = []api.Act{m, m, u, m}
			unknown(t, "an action behind one that makes its variable", p, 3)
			p.Acts = []api.Act{u, m}
			unknown(t, "an action in front of one that makes its variable", p, 1)
			p.Acts = []api.Act{m, u, {Id: "s", Attr: av("never"), Value: plain(aw("z")), Pref: api.Accept}}
			unknown(t, "two actions", p, 2)
		}
	}
	p := with(pos("t", x()))
	p.Acts = users
	unknown(t, "a condition and actions", p, 1)
}

func TestVarsAreInTheOrderInWhichTheyBecameKnown(t *testing.T) {
	accepted(t, "many variables", prod(
		goal("z", tests(v("y"), v("z"), v("x")), v("b"), v("a"), v("y")),
		all(pos("z", tests(v("m")), v("l"))),
		pos("b", x(), v("x"), v("d"), v("c")),
		neg("c", tests(v("k"))),
		goal("e", tests(v("a"), v("aa")), v("e")),
	), "z y x b a d c e aa")
}

func TestVarsOfTheMost(t *testing.T) {
	var l []api.Cond
	var names []string
	name := func() string {
		names = append(names, "v"+strconv.Itoa(len(names)*37%1000)+"-")
		return names[len(names)-1]
	}
	next := func() api.Test { return v(name()) }
	for range 16 {
		l = append(l, goal(name(), tests(next(), next(), next(), next()), next(), next(), next(), next()))
	}
	accepted(t, "the greatest production", api.Prod{Name: "p", Conds: l, Acts: acts(16)}, strings.Join(names, " "))
}

func TestVarsReturnsNewMemory(t *testing.T) {
	p := whole()
	one, two := shape.Vars(p), shape.Vars(p)
	for i := range one[:cap(one)] {
		one[:cap(one)][i] = "spoilt"
	}
	alike(t, "another list", two, strings.Fields("s o a b"))
	alike(t, "a third list", shape.Vars(p), strings.Fields("s o a b"))
	alike(t, "the production", p.Conds, whole().Conds)
}

func TestProductionsStayAsTheyAre(t *testing.T) {
	for _, p := range []api.Prod{whole(), with(pos("t", x())), prod(nested(8))} {
		q := copied(p)
		shape.Shape(p)
		shape.Check(p)
		shape.Vars(p)
		shape.Size(p.Conds)
		for _, c := range shape.Each(p.Conds) {
			spoil([]api.Cond{c})
		}
		for s := range shape.Consts(p) {
			s.Text = ""
		}
		alike(t, "the conditions", p.Conds, q.Conds)
		alike(t, "the actions", p.Acts, q.Acts)
	}
}
