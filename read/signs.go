package read

import (
	"ponder/api"
	"ponder/lex"
)

// What the signs stand for. The kind is asked, too: a sign that was refused is a
// sign no more.

// relation is Eq of a token that is no sign of a test.
func relation(t lex.Token) int {
	if t.Kind != lex.Sign {
		return api.Eq
	}
	switch t.Text {
	case "<>":
		return api.Ne
	case "<":
		return api.Lt
	case "<=":
		return api.Le
	case ">":
		return api.Gt
	case ">=":
		return api.Ge
	case "<=>":
		return api.Same
	}
	return api.Eq
}

// operation is Plain of a token that is no sign of a sum.
func operation(t lex.Token) int {
	if t.Kind != lex.Sign {
		return api.Plain
	}
	switch t.Text {
	case "+":
		return api.Add
	case "-":
		return api.Sub
	case "*":
		return api.Mul
	}
	return api.Plain
}

// preferences returns what a sign stands for alone, and what it stands for with
// an atom; each 0 if it can't be so.
func preferences(t lex.Token) (alone, held int) {
	if t.Kind != lex.Sign {
		return 0, 0
	}
	switch t.Text {
	case "+":
		return api.Accept, 0
	case "-":
		return api.Reject, 0
	case "!":
		return api.Require, 0
	case "~":
		return api.Prohibit, 0
	case ">":
		return api.Best, api.Better
	case "<":
		return api.Worst, api.Worse
	case "=":
		return api.Indiff, api.Alike
	}
	return 0, 0
}
