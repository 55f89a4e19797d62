package show

import (
	"strings"

	"ponder/api"
	"ponder/sym"
)

// writeCond writes each byte once, however deep the condition is within others:
// texts put together level by level would be copied at each level.
func writeCond(b *strings.Builder, c api.Cond) {
	if c.Kind != api.Pos {
		b.WriteString("-")
	}
	if c.Kind != api.All {
		b.WriteString(clause(c))
		return
	}
	b.WriteString("{")
	for i, inner := range c.Conds {
		if i > 0 {
			b.WriteString(" ")
		}
		writeCond(b, inner)
	}
	b.WriteString("}")
}

func clause(c api.Cond) string {
	var words []string
	if c.Goal {
		words = append(words, "state")
	}
	words = append(words, variable(c.Id), "^"+field(c.Attr))
	if len(c.Value) > 0 {
		words = append(words, field(c.Value))
	}
	if c.Acc {
		words = append(words, "+")
	}
	return within("(", words, ")")
}

func field(l []api.Test) string {
	var words []string
	for _, t := range l {
		words = append(words, test(t))
	}
	if len(words) > 1 {
		return within("{ ", words, " }")
	}
	return within("", words, "")
}

func test(t api.Test) string {
	if t.Rel == api.In {
		return list(t.List)
	}
	a := atom(api.Atom{Var: t.Var, Sym: t.Sym})
	if t.Rel == api.Eq {
		return a
	}
	return relSign(t.Rel) + " " + a
}

func list(l []api.Sym) string {
	var words []string
	for _, s := range l {
		words = append(words, sym.Text(s))
	}
	return within("<< ", words, " >>")
}

func term(t api.Term) string {
	if t.Op == api.Plain {
		return atom(t.A)
	}
	return within("(", []string{opSign(t.Op), atom(t.A), atom(t.B)}, ")")
}

func atom(a api.Atom) string {
	if a.Var != "" {
		return variable(a.Var)
	}
	return sym.Text(a.Sym)
}

func variable(name string) string {
	return "<" + name + ">"
}

func within(front string, words []string, back string) string {
	return front + strings.Join(words, " ") + back
}

// Of a number that has no sign, the sign is the empty text.

func relSign(rel int) string {
	switch rel {
	case api.Ne:
		return "<>"
	case api.Lt:
		return "<"
	case api.Le:
		return "<="
	case api.Gt:
		return ">"
	case api.Ge:
		return ">="
	case api.Same:
		return "<=>"
	}
	return ""
}

func opSign(op int) string {
	switch op {
	case api.Add:
		return "+"
	case api.Sub:
		return "-"
	case api.Mul:
		return "*"
	}
	return ""
}

// prefSign gives the same sign to a preference for a value alone and to one that
// holds it against another: what follows the sign tells them apart.
func prefSign(pref int) string {
	switch pref {
	case api.Accept:
		return "+"
	case api.Reject:
		return "-"
	case api.Require:
		return "!"
	case api.Prohibit:
		return "~"
	case api.Best, api.Better:
		return ">"
	case api.Worst, api.Worse:
		return "<"
	case api.Indiff, api.Alike:
		return "="
	}
	return ""
}
