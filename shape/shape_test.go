package shape_test

import (
	"math"
	"strconv"
	"testing"

	"ponder/api"
	"ponder/shape"
)

// shaped holds Shape to a place and an error, and Check to the same where Shape doesn't accept.
func shaped(t *testing.T, what string, p api.Prod, place int, err api.Errno) {
	t.Helper()
	gotPlace, gotErr := shape.Shape(p)
	if gotPlace != place || gotErr != err {
		t.Errorf("Shape of %s: got %d, %d, want %d, %d", what, gotPlace, gotErr, place, err)
	}
	if err == api.OK {
		return
	}
	gotPlace, gotErr = shape.Check(p)
	if gotPlace != place || gotErr != err {
		t.Errorf("Check of %s: got %d, %d, want %d, %d", what, gotPlace, gotErr, place, err)
	}
	alike(t, "Vars of "+what, shape.Vars(p), []string{})
}

// at returns the condition of l with the count k; it takes from k what it goes by.
func at(l []api.Cond, k *int) *api.Cond {
	for i := range l {
		if *k == 0 {
			return &l[i]
		}
		*k--
		if c := at(l[i].Conds, k); c != nil {
			return c
		}
	}
	return nil
}

// changedAt returns the whole production with one condition changed.
func changedAt(count int, change func(c *api.Cond)) api.Prod {
	p := whole()
	change(at(p.Conds, &count))
	return p
}

// singles and groups are the counts of the conditions of the whole production: those that are a Pos or a Neg, those that are an All.
var (
	singles = []int{0, 1, 2, 4, 6, 7, 8}
	groups  = []int{3, 5}
)

const wholeSize = 9

// P6.1

func TestShapeOfTheWhole(t *testing.T) {
	shaped(t, "the whole production", whole(), -1, api.OK)
	shaped(t, "the least production", prod(pos("s", x())), -1, api.OK)
}

func TestShapeOfNames(t *testing.T) {
	for _, name := range []string{"a", "a-b_1", "state", longest} {
		p := whole()
		p.Name = name
		shaped(t, "a production named "+name, p, -1, api.OK)
	}
	for _, name := range wrongNames() {
		p := whole()
		p.Name = name
		shaped(t, "a production named "+strconv.Quote(name), p, -1, api.ErrName)
		p.Conds, p.Acts = nil, nil
		shaped(t, "a production named "+strconv.Quote(name)+" without parts", p, -1, api.ErrName)
	}
	shaped(t, "the zero production", api.Prod{}, -1, api.ErrName)
}

func TestShapeOfHowMany(t *testing.T) {
	for n := range 40 {
		err, place := api.OK, -1
		if n == 0 || n > 16 {
			err = api.ErrMany
		}
		p := prod(xs(n)...)
		shaped(t, strconv.Itoa(n)+" conditions", p, place, err)
		p = prod(pos("s", x()))
		p.Acts = acts(n)
		shaped(t, strconv.Itoa(n)+" actions", p, place, err)
		if n > 0 {
			p = prod(append(xs(1), all(xs(n)...))...)
			if n > 14 {
				err = api.ErrMany
			}
			shaped(t, "an All of "+strconv.Itoa(n)+" conditions behind another one", p, place, err)
		}
	}
}

// Inner conditions count wherever they are, also where they may not be.
func TestShapeOfHowManyGoesFirst(t *testing.T) {
	for _, kind := range []int{api.Pos, api.Neg, api.All, 0, 77} {
		c := pos("s", x())
		c.Kind, c.Conds = kind, xs(15)
		shaped(t, "16 conditions, most within one of kind "+strconv.Itoa(kind), prod(c), 0, api.ErrForm)
		c.Conds = xs(16)
		shaped(t, "17 conditions, most within one of kind "+strconv.Itoa(kind), prod(c), -1, api.ErrMany)
	}
	p := prod(api.Cond{})
	p.Acts = nil
	shaped(t, "a wrong condition and no action", p, -1, api.ErrMany)
	p.Acts = acts(17)
	shaped(t, "a wrong condition and too many actions", p, -1, api.ErrMany)
	p = whole()
	p.Conds = p.Conds[:0]
	shaped(t, "no condition, with others behind the list", p, -1, api.ErrMany)
}

// Each of these would not end if all conditions were counted.
func TestShapeOfFarTooMany(t *testing.T) {
	shaped(t, "2^60 conditions", prod(shared(60)...), -1, api.ErrMany)
	shaped(t, "conditions 2^16 deep", prod(nested(1<<16-1)), -1, api.ErrMany)
	shaped(t, "a million conditions", prod(xs(1000000)...), -1, api.ErrMany)
	endless := []api.Cond{all(pos("s", x()))}
	endless[0].Conds = endless
	shaped(t, "a condition within itself", prod(endless...), -1, api.ErrMany)
}

func TestShapeOfKinds(t *testing.T) {
	for _, kind := range []int{0, -1, 4, 77, math.MaxInt, math.MinInt} {
		for count := range wholeSize {
			p := changedAt(count, func(c *api.Cond) { c.Kind = kind })
			shaped(t, "kind "+strconv.Itoa(kind)+" at "+strconv.Itoa(count), p, count, api.ErrForm)
		}
		shaped(t, "kind "+strconv.Itoa(kind)+" and nothing else", prod(pos("s", x()), api.Cond{Kind: kind}), 1, api.ErrForm)
	}
	for _, count := range singles {
		p := changedAt(count, func(c *api.Cond) { c.Kind = api.All })
		shaped(t, "All for another kind at "+strconv.Itoa(count), p, count, api.ErrForm)
		p = changedAt(count, func(c *api.Cond) { c.Kind = api.Pos + api.Neg - c.Kind })
		shaped(t, "Neg for Pos at "+strconv.Itoa(count), shapeOnly(p), -1, api.OK)
	}
	for _, count := range groups {
		for _, kind := range []int{api.Pos, api.Neg} {
			p := changedAt(count, func(c *api.Cond) { c.Kind = kind })
			shaped(t, "another kind for All at "+strconv.Itoa(count), p, count, api.ErrForm)
			p = changedAt(count, func(c *api.Cond) { c.Kind, c.Id, c.Attr = kind, "s", x() })
			shaped(t, "inner conditions of a single one at "+strconv.Itoa(count), p, count, api.ErrForm)
		}
	}
}

// shapeOnly says by its name that Check may think otherwise.
func shapeOnly(p api.Prod) api.Prod {
	return p
}

func TestShapeOfAlls(t *testing.T) {
	for what, change := range map[string]func(c *api.Cond){
		"Goal":               func(c *api.Cond) { c.Goal = true },
		"an Id":              func(c *api.Cond) { c.Id = "s" },
		"an Id that is none": func(c *api.Cond) { c.Id = "-" },
		"an Attr":            func(c *api.Cond) { c.Attr = x() },
		"a zero Attr":        func(c *api.Cond) { c.Attr = make([]api.Test, 1) },
		"too many Attrs":     func(c *api.Cond) { c.Attr = make([]api.Test, 5) },
		"a Value":            func(c *api.Cond) { c.Value = x() },
		"too many Values":    func(c *api.Cond) { c.Value = make([]api.Test, 5) },
		"Acc":                func(c *api.Cond) { c.Acc = true },
		"no Conds":           func(c *api.Cond) { c.Conds = nil },
		"empty Conds":        func(c *api.Cond) { c.Conds = c.Conds[:0] },
	} {
		for _, count := range groups {
			shaped(t, "an All with "+what, changedAt(count, change), count, api.ErrForm)
		}
	}
	for _, count := range groups {
		p := changedAt(count, func(c *api.Cond) { c.Attr, c.Value = []api.Test{}, []api.Test{} })
		shaped(t, "an All with empty lists", p, -1, api.OK)
	}
}

func TestShapeOfSingles(t *testing.T) {
	for _, count := range singles {
		for _, name := range wrongNames() {
			p := changedAt(count, func(c *api.Cond) { c.Id = name })
			shaped(t, "the Id "+strconv.Quote(name), p, count, api.ErrForm)
		}
		p := changedAt(count, func(c *api.Cond) { c.Id = longest })
		shaped(t, "a long Id", shapeOnly(p), -1, api.OK)
		p = changedAt(count, func(c *api.Cond) { c.Attr = nil })
		shaped(t, "no Attr", p, count, api.ErrForm)
		p = changedAt(count, func(c *api.Cond) { c.Attr = c.Attr[:0] })
		shaped(t, "an empty Attr", p, count, api.ErrForm)
		p = changedAt(count, func(c *api.Cond) { c.Value = nil })
		shaped(t, "no Value", shapeOnly(p), -1, api.OK)
		p = changedAt(count, func(c *api.Cond) { c.Conds = xs(1) })
		shaped(t, "Conds", p, count, api.ErrForm)
		p = changedAt(count, func(c *api.Cond) { c.Conds = []api.Cond{} })
		shaped(t, "empty Conds", p, -1, api.OK)
		p = changedAt(count, func(c *api.Cond) { c.Goal, c.Acc = !c.Goal, !c.Acc })
		shaped(t, "another Goal and Acc", shapeOnly(p), -1, api.OK)
	}
}

func TestShapeOfHowManyTests(t *testing.T) {
	for _, count := range singles {
		for n := range 12 {
			var l []api.Test
			for range n {
				l = append(l, w("x"))
			}
			err, place := api.OK, -1
			if n > 4 {
				err, place = api.ErrMany, count
			}
			p := changedAt(count, func(c *api.Cond) { c.Value = l })
			shaped(t, strconv.Itoa(n)+" tests of Value", shapeOnly(p), place, err)
			if n > 0 {
				p = changedAt(count, func(c *api.Cond) { c.Attr = l })
				shaped(t, strconv.Itoa(n)+" tests of Attr", shapeOnly(p), place, err)
			}
		}
	}
}

// wrongTests are not of their form, each for one reason.
func wrongTests() []api.Test {
	l := []api.Test{
		{}, {Rel: 0, Var: "s"}, {Rel: -1, Var: "s"}, {Rel: 9, Var: "s"}, {Rel: 9, List: []api.Sym{word("a")}}, {Rel: math.MinInt, Sym: word("a")}, {Rel: math.MaxInt, Sym: word("a")},
		{Rel: api.In}, {Rel: api.In, List: []api.Sym{}}, {Rel: api.In, Var: "s"}, {Rel: api.In, Sym: word("a")},
		{Rel: api.In, Var: "s", List: []api.Sym{word("a")}}, {Rel: api.In, Var: "-", List: []api.Sym{word("a")}},
		{Rel: api.In, Sym: word("a"), List: []api.Sym{word("a")}}, {Rel: api.In, Sym: api.Sym{N: 1}, List: []api.Sym{word("a")}},
		in(make([]api.Sym, 9)...), in(number(1), number(2), number(3), number(4), number(5), number(6), number(7), number(8), number(9)),
	}
	for _, s := range wrongConsts() {
		l = append(l, in(s), in(word("a"), s, number(1)))
	}
	for r := api.Eq; r <= api.Same; r++ {
		l = append(l, api.Test{Rel: r, Var: "s", Sym: word("a")}, api.Test{Rel: r, Var: "s", Sym: api.Sym{Kind: api.Int}}, api.Test{Rel: r, Var: "s", Sym: api.Sym{N: 1}},
			api.Test{Rel: r, Var: "s", List: []api.Sym{word("a")}}, api.Test{Rel: r, Sym: word("a"), List: []api.Sym{word("a")}}, api.Test{Rel: r, Var: "s", List: make([]api.Sym, 1)},
			api.Test{Rel: r, List: []api.Sym{word("a")}})
		for _, s := range wrongConsts() {
			l = append(l, than(r, s))
		}
		for _, name := range wrongNames()[1:] {
			l = append(l, rel(r, name))
		}
	}
	return l
}

// rightTests are of their form, those at the edges among them.
func rightTests() []api.Test {
	l := []api.Test{in(word("a")), in(number(0), number(0)), in(word(longest), number(api.MaxInt), number(-api.MaxInt), number(1), word("b"), word("b"), word("b"), word("z"))}
	for r := api.Eq; r <= api.Same; r++ {
		l = append(l, rel(r, "s"), rel(r, longest), than(r, word("a")), than(r, word(longest)), than(r, number(0)), than(r, number(api.MaxInt)), than(r, number(-api.MaxInt)),
			api.Test{Rel: r, Var: "s", List: []api.Sym{}})
	}
	return l
}

func TestShapeOfTests(t *testing.T) {
	for _, count := range singles {
		for _, test := range wrongTests() {
			p := changedAt(count, func(c *api.Cond) { c.Attr = tests(test) })
			shaped(t, "a wrong test of Attr", p, count, api.ErrForm)
			p = changedAt(count, func(c *api.Cond) { c.Value = tests(test) })
			shaped(t, "a wrong test of Value", p, count, api.ErrForm)
			p = changedAt(count, func(c *api.Cond) { c.Attr = tests(w("a"), v("s"), w("a"), test) })
			shaped(t, "a wrong last test of Attr", p, count, api.ErrForm)
			p = changedAt(count, func(c *api.Cond) { c.Value = tests(w("a"), v("s"), test, w("a")) })
			shaped(t, "a wrong test within Value", p, count, api.ErrForm)
		}
		for _, test := range rightTests() {
			p := changedAt(count, func(c *api.Cond) { c.Attr, c.Value = tests(test), tests(w("a"), test) })
			shaped(t, "right tests", shapeOnly(p), -1, api.OK)
		}
	}
}

// Of one condition, its form goes ahead of the number of its tests, and that of their form.
func TestShapeWithinACondition(t *testing.T) {
	many := func(c *api.Cond) { c.Value = make([]api.Test, 5) }
	for _, count := range singles {
		shaped(t, "too many tests, all wrong", changedAt(count, many), count, api.ErrMany)
		shaped(t, "a wrong test of Attr and too many of Value", changedAt(count, func(c *api.Cond) { many(c); c.Attr = make([]api.Test, 1) }), count, api.ErrMany)
		shaped(t, "too many tests of Attr and a wrong one of Value", changedAt(count, func(c *api.Cond) { c.Attr, c.Value = make([]api.Test, 5), make([]api.Test, 1) }), count, api.ErrMany)
		shaped(t, "too many tests and no Attr", changedAt(count, func(c *api.Cond) { many(c); c.Attr = nil }), count, api.ErrForm)
		shaped(t, "too many tests and no Id", changedAt(count, func(c *api.Cond) { many(c); c.Id = "" }), count, api.ErrForm)
		shaped(t, "too many tests and Conds", changedAt(count, func(c *api.Cond) { many(c); c.Conds = xs(1) }), count, api.ErrForm)
		shaped(t, "too many tests and no kind", changedAt(count, func(c *api.Cond) { many(c); c.Kind = 0 }), count, api.ErrForm)
	}
}

func TestShapeOfTheFirstCondition(t *testing.T) {
	form := func(c *api.Cond) { c.Id, c.Kind = "", 9 }
	many := func(c *api.Cond) { c.Kind, c.Id, c.Attr, c.Conds = api.Pos, "s", make([]api.Test, 5), nil }
	for one := range wholeSize {
		for two := one + 1; two < wholeSize; two++ {
			p := changedAt(two, many)
			k := one
			form(at(p.Conds, &k))
			shaped(t, "a wrong condition in front of one with too many tests", p, one, api.ErrForm)
		}
	}
	for _, one := range singles {
		for two := one + 1; two < wholeSize; two++ {
			p := changedAt(two, form)
			k := one
			many(at(p.Conds, &k))
			shaped(t, "a condition with too many tests in front of a wrong one", p, one, api.ErrMany)
		}
	}
}

func TestShapeOfNesting(t *testing.T) {
	for n := range 13 {
		place, err := -1, api.OK
		if n > 3 {
			place, err = 4, api.ErrNest
		}
		shaped(t, strconv.Itoa(n)+" Alls, each within the one before", prod(pos("s", x()), nested(n)), place, err)
		if n > 2 {
			place, err = 5, api.ErrNest
		}
		shaped(t, "the same within an All, behind another one", prod(pos("s", x()), all(pos("s", x()), nested(n))), place, err)
	}
	three := func(l ...api.Cond) api.Cond { return all(all(all(l...))) }
	shaped(t, "many Alls side by side", prod(pos("s", x()), three(xs(1)...), nested(3), three(xs(1)...), nested(2)), -1, api.OK)
	shaped(t, "an All too deep behind others", prod(pos("s", x()), nested(3), three(pos("s", x()), nested(1))), 9, api.ErrNest)
	shaped(t, "an All that is too deep and has a wrong condition", prod(pos("s", x()), three(all(api.Cond{}))), 4, api.ErrNest)
	shaped(t, "an All that is too deep and has no condition", prod(pos("s", x()), three(all())), 4, api.ErrForm)
	shaped(t, "an All that is too deep and has an Id", prod(pos("s", x()), three(api.Cond{Kind: api.All, Id: "s", Conds: xs(1)})), 4, api.ErrForm)
	shaped(t, "a wrong condition in front of an All that is too deep", prod(pos("s", x()), three(pos("s", nil), all(xs(1)...))), 4, api.ErrForm)
	shaped(t, "a wrong condition behind an All that is too deep", prod(pos("s", x()), three(all(xs(1)...), pos("s", nil))), 4, api.ErrNest)
	shaped(t, "Alls within a Pos", prod(api.Cond{Kind: api.Pos, Id: "s", Attr: x(), Conds: []api.Cond{nested(5)}}), 0, api.ErrForm)
}

// actAt holds Shape to what one action of the whole production, changed, makes of it.
func actAt(t *testing.T, what string, ok bool, change func(a *api.Act)) {
	t.Helper()
	for i := range whole().Acts {
		p := whole()
		change(&p.Acts[i])
		if ok {
			shaped(t, what, shapeOnly(p), -1, api.OK)
		} else {
			shaped(t, what, p, wholeSize+i, api.ErrForm)
		}
	}
}

// wrongAtoms are not of their form.
func wrongAtoms() []api.Atom {
	l := []api.Atom{{Var: "s", Sym: word("a")}, {Var: "s", Sym: number(0)}, {Var: "s", Sym: api.Sym{N: 1}}, {Var: "-", Sym: word("a")}}
	for _, s := range wrongConsts() {
		l = append(l, api.Atom{Sym: s})
	}
	for _, name := range wrongNames()[1:] {
		l = append(l, av(name))
	}
	return l
}

func rightAtoms() []api.Atom {
	return []api.Atom{av("s"), av("unheard-of"), av(longest), an(0), an(api.MaxInt), an(-api.MaxInt), aw("a"), aw(longest)}
}

func TestShapeOfActions(t *testing.T) {
	for _, name := range wrongNames() {
		actAt(t, "the Id "+strconv.Quote(name), false, func(a *api.Act) { a.Id = name })
	}
	actAt(t, "a long Id", true, func(a *api.Act) { a.Id = longest })
	actAt(t, "the zero action", false, func(a *api.Act) { *a = api.Act{} })
	for _, b := range wrongAtoms() {
		actAt(t, "a wrong Attr", false, func(a *api.Act) { a.Attr = b })
	}
	for _, b := range rightAtoms() {
		actAt(t, "a right Attr", true, func(a *api.Act) { a.Attr = b })
	}
}

func TestShapeOfTerms(t *testing.T) {
	for _, b := range wrongAtoms() {
		actAt(t, "a wrong Value", false, func(a *api.Act) { a.Value = plain(b) })
		for op := api.Add; op <= api.Mul; op++ {
			actAt(t, "a wrong A", false, func(a *api.Act) { a.Value = term(op, b, an(1)) })
			actAt(t, "a wrong B", false, func(a *api.Act) { a.Value = term(op, an(1), b) })
		}
		if b != (api.Atom{}) {
			actAt(t, "a wrong B of a Plain one", false, func(a *api.Act) { a.Value = term(api.Plain, an(1), b) })
		}
	}
	for _, b := range rightAtoms() {
		isWord := b.Sym.Kind == api.Str
		actAt(t, "a right Value", true, func(a *api.Act) { a.Value = plain(b) })
		actAt(t, "a B of a Plain one", false, func(a *api.Act) { a.Value = term(api.Plain, an(1), b) })
		for op := api.Add; op <= api.Mul; op++ {
			actAt(t, "an A that may be a word", !isWord, func(a *api.Act) { a.Value = term(op, b, av("s")) })
			actAt(t, "a B that may be a word", !isWord, func(a *api.Act) { a.Value = term(op, av("s"), b) })
			actAt(t, "both that may be words", !isWord, func(a *api.Act) { a.Value = term(op, b, b) })
		}
		for _, op := range []int{-1, 4, 77, math.MinInt, math.MaxInt} {
			actAt(t, "the Op "+strconv.Itoa(op), false, func(a *api.Act) { a.Value = term(op, an(1), b) })
			actAt(t, "the Op "+strconv.Itoa(op)+" of one", false, func(a *api.Act) { a.Value = term(op, b, api.Atom{}) })
		}
	}
}

func TestShapeOfPreferences(t *testing.T) {
	for _, pref := range []int{0, -1, 11, 77, math.MinInt, math.MaxInt} {
		actAt(t, "the Pref "+strconv.Itoa(pref), false, func(a *api.Act) { a.Pref, a.Other = pref, api.Atom{} })
		actAt(t, "the Pref "+strconv.Itoa(pref)+" with Other", false, func(a *api.Act) { a.Pref, a.Other = pref, av("s") })
	}
	for pref := api.Accept; pref <= api.Alike; pref++ {
		two := pref == api.Better || pref == api.Worse || pref == api.Alike
		what := "the Pref " + strconv.Itoa(pref)
		actAt(t, what+" without Other", !two, func(a *api.Act) { a.Pref, a.Other = pref, api.Atom{} })
		for _, b := range rightAtoms() {
			actAt(t, what+" with Other", two, func(a *api.Act) { a.Pref, a.Other = pref, b })
		}
		for _, b := range wrongAtoms() {
			if two || b != (api.Atom{}) {
				actAt(t, what+" with a wrong Other", false, func(a *api.Act) { a.Pref, a.Other = pref, b })
			}
		}
	}
}

func TestShapeOfTheFirstAction(t *testing.T) {
	for i := range whole().Acts {
		p := whole()
		for k := i; k < len(p.Acts); k++ {
			p.Acts[k].Id = ""
		}
		shaped(t, "wrong actions from one on", p, wholeSize+i, api.ErrForm)
		k := wholeSize - 1
		at(p.Conds, &k).Value = make([]api.Test, 5)
		shaped(t, "the same behind a wrong condition", p, wholeSize-1, api.ErrMany)
	}
	p := prod(xs(16)...)
	p.Acts = acts(16)
	p.Acts[15].Pref = 0
	shaped(t, "a wrong last action of the greatest production", p, 31, api.ErrForm)
}
