package shape_test

import (
	"math"
	"regexp"
	"slices"
	"strconv"
	"testing"

	"ponder/api"
	"ponder/shape"
)

// What Shape, Check and Vars return by the document's rules, over the conditions as a flat list.

// row is a condition in the flat list: those within it are behind it, up to end.
type row struct {
	api.Cond
	end, in int // in: the row of the condition that it is directly within, or -1
}

func rowsOf(m []row, l []api.Cond, in int) []row {
	for _, c := range l {
		k := len(m)
		m = append(m, row{Cond: c, in: in})
		m = rowsOf(m, c.Conds, k)
		m[k].end = len(m)
	}
	return m
}

// fault is a place and its error.
type fault struct {
	place int
	err   api.Errno
}

var nameForm = regexp.MustCompile(`\A[a-z][a-z0-9_-]{0,31}\z`)

func isConst(s api.Sym) bool {
	if s.Kind == api.Int {
		return s.Text == "" && s.N >= -2147483647 && s.N <= 2147483647
	}
	return s.Kind == api.Str && s.N == 0 && nameForm.MatchString(s.Text)
}

func isAtom(a api.Atom) bool {
	asVar := nameForm.MatchString(a.Var) && a.Sym == api.Sym{}
	asConst := a.Var == "" && isConst(a.Sym)
	return asVar || asConst
}

func isTest(t api.Test) bool {
	if t.Rel == 8 {
		bad := slices.ContainsFunc(t.List, func(s api.Sym) bool { return !isConst(s) })
		return t.Var == "" && t.Sym == api.Sym{} && len(t.List) > 0 && len(t.List) < 9 && !bad
	}
	return t.Rel > 0 && t.Rel < 8 && len(t.List) == 0 && isAtom(api.Atom{Var: t.Var, Sym: t.Sym})
}

func allTests(c api.Cond) []api.Test {
	return append(slices.Clone(c.Attr), c.Value...)
}

// faultsOf lists all that is wrong with a production, first what is to be told first.
func faultsOf(p api.Prod) []fault {
	var l []fault
	add := func(wrong bool, place int, err api.Errno) {
		if wrong {
			l = append(l, fault{place, err})
		}
	}
	rows := rowsOf(nil, p.Conds, -1)
	add(!nameForm.MatchString(p.Name), -1, api.ErrName)
	add(len(rows) == 0 || len(rows) > 16 || len(p.Acts) == 0 || len(p.Acts) > 16, -1, api.ErrMany)
	for i, c := range rows {
		isAll := c.Kind == api.All
		alls := 0
		for k := c.in; k >= 0; k = rows[k].in {
			if rows[k].Kind == api.All {
				alls++
			}
		}
		badTest := slices.ContainsFunc(allTests(c.Cond), func(t api.Test) bool { return !isTest(t) })
		add(c.Kind < 1 || c.Kind > 3, i, api.ErrForm)
		add(isAll && (c.Goal || c.Id != "" || len(c.Attr)+len(c.Value) > 0 || c.Acc || len(c.Conds) == 0), i, api.ErrForm)
		add(!isAll && (len(c.Conds) > 0 || !nameForm.MatchString(c.Id) || len(c.Attr) == 0), i, api.ErrForm)
		add(!isAll && (len(c.Attr) > 4 || len(c.Value) > 4), i, api.ErrMany)
		add(!isAll && badTest, i, api.ErrForm)
		add(isAll && alls >= 3, i, api.ErrNest)
	}
	for i, a := range p.Acts {
		add(!isAct(a), len(rows)+i, api.ErrForm)
	}
	return append(l, fault{-1, api.OK})
}

func isAct(a api.Act) bool {
	sum := a.Value.Op >= 1 && a.Value.Op <= 3
	pair := a.Pref >= 8 && a.Pref <= 10
	switch {
	case !nameForm.MatchString(a.Id), !isAtom(a.Attr), !isAtom(a.Value.A), a.Value.Op < 0, a.Value.Op > 3, a.Pref < 1, a.Pref > 10:
		return false
	case sum && (!isAtom(a.Value.B) || a.Value.A.Sym.Kind == api.Str || a.Value.B.Sym.Kind == api.Str), !sum && a.Value.B != api.Atom{}:
		return false
	}
	return pair && isAtom(a.Other) || !pair && a.Other == api.Atom{}
}

// known tells up to which row, it excluded, a variable is known that became known in row i.
func known(rows []row, i int) int {
	switch {
	case rows[i].Kind == api.Neg:
		return i + 1
	case rows[i].in >= 0:
		return rows[rows[i].in].end
	}
	return math.MaxInt
}

// checkOf returns what Check and Vars return for a production that Shape accepts.
func checkOf(p api.Prod) (fault, []string) {
	rows := rowsOf(nil, p.Conds, -1)
	if rows[0].Kind != api.Pos {
		return fault{0, api.ErrForm}, nil
	}
	until := map[string]int{} // of each variable: up to which row it is known
	var vars []string
	learn := func(name string, i int) {
		if known(rows, i) == math.MaxInt && until[name] < math.MaxInt {
			vars = append(vars, name)
		}
		until[name] = max(until[name], known(rows, i))
	}
	for i, c := range rows {
		if c.Kind == api.All {
			continue
		}
		if c.Goal {
			learn(c.Id, i)
		}
		if until[c.Id] <= i {
			return fault{i, api.ErrVar}, nil
		}
		for _, t := range allTests(c.Cond) {
			if t.Var != "" && t.Rel == api.Eq {
				learn(t.Var, i)
			}
			if t.Var != "" && until[t.Var] <= i {
				return fault{i, api.ErrVar}, nil
			}
		}
	}
	for i, a := range p.Acts {
		used := []string{a.Attr.Var}
		if a.Value.Op != api.Plain {
			used = append(used, a.Value.A.Var, a.Value.B.Var)
		}
		for _, name := range used {
			if name != "" && until[name] < math.MaxInt {
				return fault{len(rows) + i, api.ErrVar}, nil
			}
		}
	}
	return fault{-1, api.OK}, vars
}

// ruled holds the functions to the rules, and tells with what error Check answers.
func ruled(t *testing.T, p api.Prod) api.Errno {
	t.Helper()
	want := faultsOf(p)[0]
	place, err := shape.Shape(p)
	if (fault{place, err}) != want {
		t.Errorf("Shape: got %d, %d, want %v, of %+v", place, err, want, p)
	}
	var vars []string
	if want.err == api.OK {
		want, vars = checkOf(p)
	}
	place, err = shape.Check(p)
	if (fault{place, err}) != want {
		t.Errorf("Check: got %d, %d, want %v, of %+v", place, err, want, p)
	}
	if got := shape.Vars(p); !slices.Equal(got, vars) {
		t.Errorf("Vars: got %v, want %v, of %+v", got, vars, p)
	}
	alike(t, "Each", eachOf(p.Conds, -1), flat(nil, p.Conds))
	equal(t, "Size", shape.Size(p.Conds), len(rowsOf(nil, p.Conds, -1)))
	return err
}

// maker makes productions, many and mixed, of the form that Shape accepts, as long as they are small enough.
type maker struct {
	next func(below int) int
}

func (m maker) name() string {
	return []string{"s", "a", "b", "c", "s"}[m.next(5)]
}

func (m maker) test() api.Test {
	switch m.next(6) {
	case 0:
		return rel(1+m.next(7), m.name())
	case 1:
		return than(1+m.next(7), number(m.next(5)-2))
	case 2:
		return in(word("a"), number(m.next(9)))
	case 3:
		return w("x")
	}
	return v(m.name())
}

func (m maker) tests(least int) []api.Test {
	var l []api.Test
	for range least + m.next(3) {
		l = append(l, m.test())
	}
	return l
}

func (m maker) cond(depth int) api.Cond {
	kind := 1 + m.next(5)
	if kind == api.All && depth < 3 {
		return all(m.conds(1+m.next(3), depth+1)...)
	}
	if kind != api.Neg {
		kind = api.Pos
	}
	return api.Cond{Kind: kind, Goal: m.next(6) == 0, Id: m.name(), Attr: m.tests(1), Value: m.tests(0), Acc: m.next(5) == 0}
}

func (m maker) conds(n, depth int) []api.Cond {
	var l []api.Cond
	for range n {
		l = append(l, m.cond(depth))
	}
	return l
}

func (m maker) atom() api.Atom {
	if m.next(3) == 0 {
		return av(m.name())
	}
	return an(m.next(3))
}

func (m maker) act() api.Act {
	a := api.Act{Id: m.name(), Attr: m.atom(), Value: plain(m.atom()), Pref: 1 + m.next(10)}
	if m.next(3) == 0 {
		a.Value = term(1+m.next(3), m.atom(), m.atom())
	}
	if a.Pref >= api.Better {
		a.Other = m.atom()
	}
	return a
}

func (m maker) prod() api.Prod {
	p := api.Prod{Name: "p" + strconv.Itoa(m.next(9)), Conds: m.conds(1+m.next(5), 0)}
	if m.next(8) > 0 {
		p.Conds[0] = goal("s", m.tests(1), m.tests(0)...)
	}
	for range 1 + m.next(3) {
		p.Acts = append(p.Acts, m.act())
	}
	return p
}

func (m maker) wrongTest() api.Test {
	l := append(wrongTests(), rightTests()...)
	return l[m.next(len(l))]
}

func (m maker) wrongAtom() api.Atom {
	l := append(wrongAtoms(), rightAtoms()...)
	return l[m.next(len(l))]
}

// harm changes one thing of p, most often for the worse.
func (m maker) harm(p *api.Prod) {
	k := m.next(shape.Size(p.Conds))
	c := at(p.Conds, &k)
	a := &p.Acts[m.next(len(p.Acts))]
	names := append(wrongNames(), longest)
	changes := []func(){
		func() { p.Name = names[m.next(len(names))] },
		func() { c.Kind = m.next(6) - 1 },
		func() { c.Goal = !c.Goal },
		func() { c.Id = names[m.next(len(names))] },
		func() { c.Attr = make([]api.Test, m.next(6)) },
		func() { c.Value = append(c.Value, m.wrongTest()) },
		func() { c.Attr = append(c.Attr, m.wrongTest(), m.test(), m.test()) },
		func() { c.Acc = !c.Acc },
		func() { c.Conds = append(c.Conds, m.cond(0)) },
		func() { c.Conds = nil },
		func() { *c = all(all(*c)) },
		func() { a.Id = names[m.next(len(names))] },
		func() { a.Attr = m.wrongAtom() },
		func() { a.Value.A = m.wrongAtom() },
		func() { a.Value.B = m.wrongAtom() },
		func() { a.Value.Op = m.next(6) - 1 },
		func() { a.Pref = m.next(13) - 1 },
		func() { a.Other = m.wrongAtom() },
		func() { p.Acts = append(p.Acts, acts(m.next(18))...) },
		func() { p.Conds = append(p.Conds, m.conds(m.next(8), 0)...) },
	}
	changes[m.next(len(changes))]()
}

// P6.1 and P6.2 by the rules, over many productions; Each and Size beside them.

func TestManyProductions(t *testing.T) {
	m := maker{steps(6)}
	how := map[api.Errno]int{}
	for i := 0; i < 30000 && !t.Failed(); i++ {
		how[ruled(t, m.prod())]++
	}
	if how[api.OK] < 1000 || how[api.ErrVar] < 1000 || how[api.ErrForm] < 100 {
		t.Errorf("there are too few of some: %v", how)
	}
}

func TestManyWrongProductions(t *testing.T) {
	m := maker{steps(66)}
	how := map[api.Errno]int{}
	for i := 0; i < 30000 && !t.Failed(); i++ {
		p := m.prod()
		for range 1 + m.next(3) {
			m.harm(&p)
		}
		how[ruled(t, p)]++
	}
	for _, err := range []api.Errno{api.OK, api.ErrVar, api.ErrForm, api.ErrMany, api.ErrName, api.ErrNest} {
		if how[err] < 100 {
			t.Errorf("there are too few of some: %v", how)
		}
	}
}
