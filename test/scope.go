package test

import (
	"slices"

	"ponder/api"
)

// scope is the bindings that tests are made with. Those that became known on the
// way stand apart, as the given ones are the caller's, and as most tests fail: only
// for one that is met a list is made.
type scope struct {
	given, learned []api.Bind
}

func (k *scope) get(name string) (api.Sym, bool) {
	if s, ok := Get(k.given, name); ok {
		return s, true
	}
	return Get(k.learned, name)
}

// list is new memory, also where nothing became known.
func (k *scope) list() []api.Bind {
	return slices.Concat(k.given, k.learned)
}

func (k *scope) allows(t api.Test, s api.Sym) bool {
	switch {
	case t.Rel == api.In:
		return slices.Contains(t.List, s)
	case t.Var == "":
		return Holds(t.Rel, s, t.Sym)
	}
	known, ok := k.get(t.Var)
	if !ok {
		return k.learns(t, s)
	}
	return Holds(t.Rel, s, known)
}

// learns is asked where the variable of t is not known: only an Eq makes it known.
func (k *scope) learns(t api.Test, s api.Sym) bool {
	if t.Rel != api.Eq {
		return false
	}
	k.learned = append(k.learned, api.Bind{Var: t.Var, Sym: s})
	return true
}

func (k *scope) allowsAll(l []api.Test, s api.Sym) bool {
	for _, t := range l {
		if !k.allows(t, s) {
			return false
		}
	}
	return true
}

// allowsElem goes in the order of the chapter, as each part knows the variables of
// those ahead of it. An empty Id is a test without a variable: of the zero symbol.
func (k *scope) allowsElem(c api.Cond, e api.Elem) bool {
	switch {
	case c.Kind != api.Pos && c.Kind != api.Neg:
		return false
	case c.Goal && !e.Goal, c.Acc != e.Acc:
		return false
	}
	return k.allows(api.Test{Rel: api.Eq, Var: c.Id}, e.Id) &&
		k.allowsAll(c.Attr, e.Attr) && k.allowsAll(c.Value, e.Value)
}
