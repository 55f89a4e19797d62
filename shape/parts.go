package shape

import (
	"iter"
	"slices"

	"ponder/api"
)

// spot is where a condition is: its count, and the number of those it is within.
type spot struct {
	count, depth int
}

func Size(l []api.Cond) int {
	n := 0
	for range walk(l) {
		n++
	}
	return n
}

// exceeds counts no farther than it must: how many there are in all may be far
// more than a production can have.
func exceeds(l []api.Cond, most int) bool {
	for at := range walk(l) {
		if at.count >= most {
			return true
		}
	}
	return false
}

// Each goes through conditions of its own, and hands out others, so that neither
// who gave them nor who is given them can change what a loop yields.
func Each(l []api.Cond) iter.Seq2[int, api.Cond] {
	l = copyConds(l)
	return func(yield func(int, api.Cond) bool) {
		for at, c := range walk(l) {
			if !yield(at.count, copyCond(c)) {
				return
			}
		}
	}
}

// walk yields the conditions of l themselves: it is for those who only look.
func walk(l []api.Cond) iter.Seq2[spot, api.Cond] {
	return func(yield func(spot, api.Cond) bool) {
		visit(l, spot{}, yield)
	}
}

// visit returns the count of what follows l, and whether the loop goes on.
func visit(l []api.Cond, at spot, yield func(spot, api.Cond) bool) (int, bool) {
	for _, c := range l {
		if !yield(at, c) {
			return at.count, false
		}
		next, on := visit(c.Conds, spot{count: at.count + 1, depth: at.depth + 1}, yield)
		if !on {
			return next, false
		}
		at.count = next
	}
	return at.count, true
}

// Consts, as Each, goes through parts of its own.
func Consts(p api.Prod) iter.Seq[api.Sym] {
	conds, acts := copyConds(p.Conds), slices.Clone(p.Acts)
	return func(yield func(api.Sym) bool) {
		for s := range fields(conds, acts) {
			if isConst(s) && !yield(s) {
				return
			}
		}
	}
}

// isConst goes by the kind, as whether a constant is valid is not asked. The zero
// symbol is none: it is there where there is a variable, or nothing.
func isConst(s api.Sym) bool {
	return s != api.Sym{} && s.Kind != api.Id
}

// fields yields what the fields for symbols hold, the zero symbol included.
func fields(conds []api.Cond, acts []api.Act) iter.Seq[api.Sym] {
	return func(yield func(api.Sym) bool) {
		for _, c := range walk(conds) {
			if !yieldTests(c.Attr, yield) || !yieldTests(c.Value, yield) {
				return
			}
		}
		for _, a := range acts {
			if !yieldAll(yield, a.Attr.Sym, a.Value.A.Sym, a.Value.B.Sym, a.Other.Sym) {
				return
			}
		}
	}
}

func yieldTests(l []api.Test, yield func(api.Sym) bool) bool {
	for _, t := range l {
		if !yield(t.Sym) || !yieldAll(yield, t.List...) {
			return false
		}
	}
	return true
}

func yieldAll(yield func(api.Sym) bool, l ...api.Sym) bool {
	for _, s := range l {
		if !yield(s) {
			return false
		}
	}
	return true
}

// Copies share no list with what they were made from, those within lists included.

func copyConds(l []api.Cond) []api.Cond {
	var m []api.Cond
	for _, c := range l {
		m = append(m, copyCond(c))
	}
	return m
}

func copyCond(c api.Cond) api.Cond {
	c.Attr, c.Value = copyTests(c.Attr), copyTests(c.Value)
	c.Conds = copyConds(c.Conds)
	return c
}

func copyTests(l []api.Test) []api.Test {
	m := slices.Clone(l)
	for i := range m {
		m[i].List = slices.Clone(m[i].List)
	}
	return m
}
