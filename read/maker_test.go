package read_test

import (
	"slices"
	"strings"

	"ponder/api"
	"ponder/lex"
)

// maker makes productions together with texts that mean them, many and mixed.
// Some are not of the form that Shape accepts.
type maker struct {
	next   func(below int) int
	pieces []string
}

// say adds pieces of the text.
func (m *maker) say(pieces ...string) {
	m.pieces = append(m.pieces, pieces...)
}

// chance is true once in n times.
func (m *maker) chance(n int) bool {
	return m.next(n) == 0
}

func (m *maker) name() string {
	return []string{"s", "a", "b-1", "state", "sp", "x", longest}[m.next(7)]
}

func (m *maker) variable() string {
	name := m.name()
	m.say("<" + name + ">")
	return name
}

func (m *maker) constant() api.Sym {
	if m.chance(2) {
		name := m.name()
		m.say(name)
		return word(name)
	}
	i := m.next(6)
	m.say([]string{"0", "1", "-1", "10", "2147483647", "-2147483647"}[i])
	return number([]int{0, 1, -1, 10, api.MaxInt, -api.MaxInt}[i])
}

func (m *maker) atom() api.Atom {
	if m.chance(2) {
		return av(m.variable())
	}
	return api.Atom{Sym: m.constant()}
}

func (m *maker) test() api.Test {
	if m.chance(4) {
		m.say("<<")
		l := []api.Sym{m.constant()}
		for !m.chance(3) {
			l = append(l, m.constant())
		}
		m.say(">>")
		return in(l...)
	}
	rel := 1 + m.next(7)
	if rel > 1 {
		m.say([]string{"<>", "<", "<=", ">", ">=", "<=>"}[rel-2])
	}
	a := m.atom()
	return api.Test{Rel: rel, Var: a.Var, Sym: a.Sym}
}

func (m *maker) field() []api.Test {
	if m.chance(2) {
		return tests(m.test())
	}
	m.say("{")
	l := tests(m.test())
	for m.chance(2) {
		l = append(l, m.test())
	}
	m.say("}")
	return l
}

func (m *maker) clause() []api.Cond {
	m.say("(")
	goal := m.chance(3)
	if goal {
		m.say("state")
	}
	id := m.variable()
	var l []api.Cond
	for len(l) == 0 || m.chance(3) {
		c := api.Cond{Kind: api.Pos, Goal: goal, Id: id}
		if m.chance(4) {
			m.say("-")
			c.Kind = api.Neg
		}
		m.say("^")
		c.Attr = m.field()
		if !m.chance(3) {
			c.Value = m.field()
		}
		if m.chance(4) {
			m.say("+")
			c.Acc = true
		}
		l = append(l, c)
	}
	m.say(")")
	return l
}

func (m *maker) cond(depth int) []api.Cond {
	if m.chance(2) {
		return m.clause()
	}
	m.say("-")
	if m.chance(2) {
		l := m.clause()
		if len(l) > 1 || l[0].Kind == api.Neg {
			return []api.Cond{all(l...)}
		}
		l[0].Kind = api.Neg
		return l
	}
	m.say("{")
	l := m.cond(depth + 1)
	for m.chance(3 + depth) {
		l = append(l, m.cond(depth+1)...)
	}
	m.say("}")
	return []api.Cond{all(l...)}
}

func (m *maker) term() api.Term {
	if !m.chance(3) {
		return plain(m.atom())
	}
	op := 1 + m.next(3)
	m.say("(", []string{"+", "-", "*"}[op-1])
	t := api.Term{Op: op, A: m.atom(), B: m.atom()}
	m.say(")")
	return t
}

func (m *maker) act() []api.Act {
	m.say("(")
	id := m.variable()
	var l []api.Act
	for len(l) == 0 || m.chance(3) {
		m.say("^")
		a := act(id, m.atom(), m.term(), 1+m.next(10))
		if a.Pref > 1 || m.chance(2) {
			m.say([]string{"+", "-", "!", "~", ">", "<", "=", ">", "<", "="}[a.Pref-1])
		}
		if a.Pref >= 8 {
			a.Other = m.atom()
		}
		l = append(l, a)
	}
	m.say(")")
	return l
}

func (m *maker) source() source {
	m.pieces = nil
	m.say("sp", "{")
	p := api.Prod{Name: m.name()}
	m.say(p.Name)
	for len(p.Conds) == 0 || m.chance(2) {
		p.Conds = append(p.Conds, m.cond(0)...)
	}
	m.say("-->")
	for len(p.Acts) == 0 || m.chance(3) {
		p.Acts = append(p.Acts, m.act()...)
	}
	m.say("}")
	return source{p, m.pieces}
}

// text joins pieces, sometimes with more than they need between them and
// sometimes with nothing.
func (m *maker) text(pieces []string) string {
	var b strings.Builder
	for i, p := range pieces {
		b.WriteString(p)
		if i+1 == len(pieces) || !m.chance(3) || !apart(p, pieces[i+1]) {
			b.WriteString([]string{" ", "\n", "\t\r ", " # ( <x> }\n"}[m.next(4)])
		}
	}
	return b.String()
}

// apart tells whether two pieces need nothing between them. A `<` and a word
// always do: what comes behind them may make them a variable.
func apart(a, b string) bool {
	if a == "<" {
		return false
	}
	l := lex.All(a + b)
	return len(l) == 3 && l[1].At == len(a)
}

// changed puts in a piece, leaves one out, or puts one in the place of another.
func (m *maker) changed(pieces []string) []string {
	i := m.next(len(pieces))
	l := slices.Clone(pieces)
	more := strings.Fields("sp state x <x> 7 -7 ( ) { } ^ + - ! ~ < > = * << >> <> <= >= <=> --> A -0 <A> 2147483648")
	switch m.next(4) {
	case 0:
		return slices.Insert(l, i, more[m.next(len(more))])
	case 1:
		return slices.Delete(l, i, i+1)
	case 2:
		return l[:i]
	}
	l[i] = more[m.next(len(more))]
	return l
}
