package shape

import (
	"strings"

	"ponder/api"
	"ponder/order"
)

// variable is the name of one, as a member of a set.
type variable string

func (v variable) Compare(w variable) int {
	return strings.Compare(string(v), string(w))
}

// scope is where variables are known: a whole production, or within it a Neg or
// an All, which knows those around it, too.
type scope struct {
	known *order.Set[variable]
	own   []string // those that became known in this scope itself, in order
}

func newScope() *scope {
	return &scope{known: order.New[variable]()}
}

func (s *scope) inner() *scope {
	return &scope{known: s.known.Clone()}
}

func (s *scope) learn(name string) {
	if s.known.Put(variable(name)) {
		s.own = append(s.own, name)
	}
}

// knows is true where there is a symbol in a variable's stead.
func (s *scope) knows(name string) bool {
	if name == "" {
		return true
	}
	_, ok := s.known.Get(variable(name))
	return ok
}

func Check(p api.Prod) (int, api.Errno) {
	_, place, err := check(p)
	return place, err
}

func Vars(p api.Prod) []string {
	l, _, _ := check(p)
	return l
}

// check returns what Vars does beside what Check does.
func check(p api.Prod) ([]string, int, api.Errno) {
	if place, err := Shape(p); err != api.OK {
		return nil, place, err
	}
	if p.Conds[0].Kind != api.Pos {
		return nil, 0, api.ErrForm
	}
	s := newScope()
	if place := s.badCond(p.Conds, 0); place != none {
		return nil, place, api.ErrVar
	}
	for i, a := range p.Acts {
		if !s.allowsAct(a) {
			return nil, Size(p.Conds) + i, api.ErrVar
		}
	}
	return s.own, none, api.OK
}

// badCond returns the place of the first condition that uses a variable which is
// not known, none if there is none. The first one of l has the place first.
func (s *scope) badCond(l []api.Cond, first int) int {
	for _, c := range l {
		if place := s.badWithin(c, first); place != none {
			return place
		}
		first += 1 + Size(c.Conds)
	}
	return none
}

func (s *scope) badWithin(c api.Cond, place int) int {
	switch c.Kind {
	case api.All:
		return s.inner().badCond(c.Conds, place+1)
	case api.Neg:
		s = s.inner()
	}
	if !s.allowsCond(c) {
		return place
	}
	return none
}

// allowsCond learns what becomes known on the way.
func (s *scope) allowsCond(c api.Cond) bool {
	if c.Goal {
		s.learn(c.Id)
	}
	return s.knows(c.Id) && s.allowsTests(c.Attr) && s.allowsTests(c.Value)
}

func (s *scope) allowsTests(l []api.Test) bool {
	for _, t := range l {
		if t.Rel == api.Eq && t.Var != "" {
			s.learn(t.Var)
		}
		if !s.knows(t.Var) {
			return false
		}
	}
	return true
}

// allowsAct learns nothing: what is new in an action is not known to any other.
func (s *scope) allowsAct(a api.Act) bool {
	if !s.knows(a.Attr.Var) {
		return false
	}
	return a.Value.Op == api.Plain || s.knows(a.Value.A.Var) && s.knows(a.Value.B.Var)
}
