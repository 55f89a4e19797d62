package show_test

import (
	"regexp"
	"strconv"
	"strings"

	"ponder/api"
)

// reader reads texts by the grammar of chapter 8, as far as Prod writes it. It
// stops the test that asks for it by a panic where the text can't go on.
type reader struct {
	pieces []string
}

var pieceForm = regexp.MustCompile(`\A(?:-->|<=>|<<|>>|<>|<=|>=|<[a-z][a-z0-9_-]*>|[a-z][a-z0-9_-]*|-?[0-9]+|[(){}^+!~<>=*-])`)

func piecesOf(text string) []string {
	var l []string
	for text = strings.TrimLeft(text, " \n"); text != ""; text = strings.TrimLeft(text, " \n") {
		piece := pieceForm.FindString(text)
		if piece == "" {
			panic("no token: " + text)
		}
		l = append(l, piece)
		text = text[len(piece):]
	}
	return append(l, "END")
}

func (r *reader) sees(pieces ...string) bool {
	for i, p := range pieces {
		if r.pieces[i] != p {
			return false
		}
	}
	return true
}

func (r *reader) take() string {
	p := r.pieces[0]
	r.pieces = r.pieces[1:]
	return p
}

func (r *reader) takes(p string) bool {
	if r.sees(p) {
		r.take()
		return true
	}
	return false
}

func (r *reader) must(pieces ...string) {
	for _, p := range pieces {
		if !r.takes(p) {
			panic("no " + p + ": " + strings.Join(r.pieces, " "))
		}
	}
}

func (r *reader) isAtom() bool {
	p := r.pieces[0]
	return p != "END" && !strings.Contains("--> <=> << >> <> <= >= ( ) { } ^ + - ! ~ < > = *", p)
}

func (r *reader) atom() api.Atom {
	if !r.isAtom() {
		panic("no atom: " + strings.Join(r.pieces, " "))
	}
	p := r.take()
	if p[0] == '<' {
		return av(p[1 : len(p)-1])
	}
	if i, err := strconv.Atoi(p); err == nil {
		return an(i)
	}
	return aw(p)
}

func (r *reader) test() api.Test {
	if r.takes("<<") {
		var l []api.Sym
		for !r.takes(">>") {
			l = append(l, r.atom().Sym)
		}
		return in(l...)
	}
	t := api.Test{Rel: api.Eq}
	for i, sign := range []string{"<>", "<", "<=", ">", ">=", "<=>"} {
		if r.takes(sign) {
			t.Rel = api.Ne + i
			break
		}
	}
	a := r.atom()
	t.Var, t.Sym = a.Var, a.Sym
	return t
}

func (r *reader) field() []api.Test {
	if !r.takes("{") {
		return tests(r.test())
	}
	var l []api.Test
	for !r.takes("}") {
		l = append(l, r.test())
	}
	return l
}

func (r *reader) cond() api.Cond {
	if r.sees("-", "{") {
		r.must("-", "{")
		c := all()
		for !r.takes("}") {
			c.Conds = append(c.Conds, r.cond())
		}
		return c
	}
	c := api.Cond{Kind: api.Pos}
	if r.takes("-") {
		c.Kind = api.Neg
	}
	r.must("(")
	c.Goal = r.takes("state")
	c.Id = r.atom().Var
	r.must("^")
	c.Attr = r.field()
	if !r.sees("+") && !r.sees(")") {
		c.Value = r.field()
	}
	c.Acc = r.takes("+")
	r.must(")")
	return c
}

func (r *reader) term() api.Term {
	if !r.takes("(") {
		return plain(r.atom())
	}
	op := 1 + strings.Index("+-*", r.take())
	t := term(op, r.atom(), r.atom())
	r.must(")")
	return t
}

func (r *reader) act() api.Act {
	r.must("(")
	id := r.atom().Var
	r.must("^")
	a := act(id, r.atom(), r.term(), 1+strings.Index("+-!~><=", r.take()))
	if r.isAtom() {
		a.Pref += api.Better - api.Best
		a.Other = r.atom()
	}
	r.must(")")
	return a
}

func readOf(text string) api.Prod {
	r := &reader{pieces: piecesOf(text)}
	var p api.Prod
	r.must("sp", "{")
	p.Name = r.atom().Sym.Text
	for !r.takes("-->") {
		p.Conds = append(p.Conds, r.cond())
	}
	for !r.takes("}") {
		p.Acts = append(p.Acts, r.act())
	}
	r.must("END")
	return p
}
