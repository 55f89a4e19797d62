package read

import (
	"slices"
	"strconv"

	"ponder/api"
	"ponder/lex"
	"ponder/shape"
)

// Each of the following reads by a rule of the grammar, which stands in front of
// it.

// sp { WORD cond cond .. --> act act .. }
func (r *reader) prod() (api.Prod, fault) {
	at := r.peek().At
	r.needsWord("sp")
	r.needsSign("{")
	p := api.Prod{Name: r.needs(lex.Word), Conds: r.conds("-->"), Acts: r.acts("}")}
	if r.stuck() {
		return api.Prod{}, fault{at: r.peek().At, err: api.ErrText}
	}
	if _, err := shape.Shape(p); err != api.OK {
		return api.Prod{}, fault{at: at, err: err}
	}
	return p, fault{at: -1, err: api.OK}
}

// cond cond .. END
func (r *reader) conds(end string) []api.Cond {
	return slices.Concat(upTo(r, end, r.cond)...)
}

// clause | - clause | - { cond cond .. }
func (r *reader) cond() []api.Cond {
	if !r.takesSign("-") {
		return r.clause()
	}
	if r.takesSign("{") {
		return []api.Cond{{Kind: api.All, Conds: r.conds("}")}}
	}
	return []api.Cond{negated(r.clause())}
}

func negated(clause []api.Cond) api.Cond {
	if len(clause) == 1 && clause[0].Kind == api.Pos {
		c := clause[0]
		c.Kind = api.Neg
		return c
	}
	return api.Cond{Kind: api.All, Conds: clause}
}

// ( [state] VAR item item .. )
func (r *reader) clause() []api.Cond {
	r.needsSign("(")
	goal := r.takesWord("state")
	id := r.needs(lex.Var)
	return upTo(r, ")", func() api.Cond { return r.item(goal, id) })
}

// [-] ^ field [field] [+]
func (r *reader) item(goal bool, id string) api.Cond {
	c := api.Cond{Kind: api.Pos, Goal: goal, Id: id}
	if r.takesSign("-") {
		c.Kind = api.Neg
	}
	r.needsSign("^")
	c.Attr = r.field()
	if beginsField(r.peek()) {
		c.Value = r.field()
	}
	c.Acc = r.takesSign("+")
	return c
}

// test | { test test .. }
func (r *reader) field() []api.Test {
	if r.takesSign("{") {
		return upTo(r, "}", r.test)
	}
	return []api.Test{r.test()}
}

func beginsField(t lex.Token) bool {
	if t.Kind == lex.Sign {
		return t.Text == "{" || t.Text == "<<" || relation(t) != api.Eq
	}
	return isAtom(t)
}

// [<> | < | <= | > | >= | <=>] atom | << const const .. >>
func (r *reader) test() api.Test {
	if r.takesSign("<<") {
		return api.Test{Rel: api.In, List: upTo(r, ">>", r.constant)}
	}
	rel := relation(r.peek())
	if rel != api.Eq {
		r.take()
	}
	a := r.atom()
	return api.Test{Rel: rel, Var: a.Var, Sym: a.Sym}
}

// VAR | const
func (r *reader) atom() api.Atom {
	if r.peek().Kind == lex.Var {
		return api.Atom{Var: r.take().Text}
	}
	return api.Atom{Sym: r.constant()}
}

func isAtom(t lex.Token) bool {
	return t.Kind == lex.Var || t.Kind == lex.Word || t.Kind == lex.Num
}

// WORD | NUM
func (r *reader) constant() api.Sym {
	if r.peek().Kind == lex.Num {
		// A Num is never out of bounds: it would be Bad.
		n, _ := strconv.Atoi(r.take().Text)
		return api.Sym{Kind: api.Int, N: n}
	}
	return api.Sym{Kind: api.Str, Text: r.needs(lex.Word)}
}

// act act .. END
func (r *reader) acts(end string) []api.Act {
	return slices.Concat(upTo(r, end, r.act)...)
}

// ( VAR aitem aitem .. )
func (r *reader) act() []api.Act {
	r.needsSign("(")
	id := r.needs(lex.Var)
	return upTo(r, ")", func() api.Act { return r.aitem(id) })
}

// ^ atom term [pref]
func (r *reader) aitem(id string) api.Act {
	r.needsSign("^")
	a := api.Act{Id: id, Attr: r.atom(), Value: r.term()}
	a.Pref, a.Other = r.pref()
	return a
}

// atom | ( (+ | - | *) atom atom )
func (r *reader) term() api.Term {
	if !r.takesSign("(") {
		return api.Term{A: r.atom()}
	}
	t := api.Term{Op: r.op(), A: r.atom(), B: r.atom()}
	r.needsSign(")")
	return t
}

// + | - | *
func (r *reader) op() int {
	op := operation(r.peek())
	if op == api.Plain {
		r.refuse()
		return op
	}
	r.take()
	return op
}

// + | - | ! | ~ | > [atom] | < [atom] | = [atom]
func (r *reader) pref() (int, api.Atom) {
	alone, held := preferences(r.peek())
	if alone == 0 {
		return api.Accept, api.Atom{}
	}
	r.take()
	if held != 0 && isAtom(r.peek()) {
		return held, r.atom()
	}
	return alone, api.Atom{}
}
