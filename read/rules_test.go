package read_test

import (
	"slices"
	"strings"

	"ponder/api"
	"ponder/lex"
	"ponder/shape"
)

// The grammar of chapter 8 as data. What there may be several of has a rule of
// its own; WORD, NUM and VAR are any of their kind, 'sp' and 'state' these words.
const grammar = `
text: 
text: text prod
prod: 'sp' { WORD conds --> acts }
conds: cond
conds: conds cond
cond: clause
cond: - clause
cond: - { conds }
clause: ( VAR items )
clause: ( 'state' VAR items )
items: item
items: items item
item: plus
item: - plus
plus: fields
plus: fields +
fields: ^ field
fields: ^ field field
field: test
field: { tests }
tests: test
tests: tests test
test: atom
test: <> atom
test: < atom
test: <= atom
test: > atom
test: >= atom
test: <=> atom
test: << consts >>
consts: const
consts: consts const
atom: VAR
atom: const
const: WORD
const: NUM
acts: act
acts: acts act
act: ( VAR aitems )
aitems: aitem
aitems: aitems aitem
aitem: ^ atom term
aitem: ^ atom term pref
term: atom
term: ( op atom atom )
op: +
op: -
op: *
pref: +
pref: -
pref: !
pref: ~
pref: hold
pref: hold atom
hold: >
hold: <
hold: =
`

type rule struct {
	name  string
	parts []string
}

func rulesOf(grammar string) []rule {
	var l []rule
	for line := range strings.Lines(strings.TrimSpace(grammar)) {
		name, parts, _ := strings.Cut(line, ":")
		l = append(l, rule{name, strings.Fields(parts)})
	}
	return l
}

var rules = rulesOf(grammar)

// state is a rule of which done parts were read, from the token from on.
type state struct {
	rule, done, from int
}

func (s state) next() string {
	if s.done < len(rules[s.rule].parts) {
		return rules[s.rule].parts[s.done]
	}
	return ""
}

// table is an Earley parser: for each token read so far, and for the beginning,
// all states that are possible behind it.
type table [][]state

// grow adds to the last row what follows from what is there: what can begin, and
// what goes on behind what is complete.
func (m table) grow() table {
	row := len(m) - 1
	put := func(s state) {
		if !slices.Contains(m[row], s) {
			m[row] = append(m[row], s)
		}
	}
	for i := 0; i < len(m[row]); i++ {
		s := m[row][i]
		for k, r := range rules {
			if r.name == s.next() {
				put(state{k, 0, row})
			}
		}
		if s.next() != "" {
			continue
		}
		for _, o := range m[s.from] {
			if o.next() == rules[s.rule].name {
				put(state{o.rule, o.done + 1, o.from})
			}
		}
	}
	return m
}

// read returns false where the token can not be there.
func (m table) read(k lex.Token) (table, bool) {
	var row []state
	for _, s := range m[len(m)-1] {
		if slices.Contains(namesOf(k), s.next()) {
			row = append(row, state{s.rule, s.done + 1, s.from})
		}
	}
	return append(m, row).grow(), row != nil
}

// ends tells whether the text may end here.
func (m table) ends() bool {
	return slices.ContainsFunc(m[len(m)-1], func(s state) bool {
		return rules[s.rule].name == "text" && s.from == 0 && s.next() == ""
	})
}

func namesOf(k lex.Token) []string {
	switch k.Kind {
	case lex.Word:
		return []string{"WORD", "'" + k.Text + "'"}
	case lex.Num:
		return []string{"NUM"}
	case lex.Var:
		return []string{"VAR"}
	case lex.Sign:
		return []string{k.Text}
	}
	return nil
}

// wrongAt returns the index of the first token that can not be there, and how
// many productions were read to their ends in front of it; -1 if there is none.
func wrongAt(text string) (at, whole int) {
	m := table{{{0, 0, 0}, {1, 0, 0}}}.grow()
	for k := range lex.Tokens(text) {
		if k.Kind == lex.End && m.ends() {
			return -1, whole
		}
		next, ok := m.read(k)
		if !ok {
			return k.At, whole
		}
		if m = next; m.ends() {
			whole++
		}
	}
	panic("a sequence without an End")
}

// result is what One and All return beside productions.
type result struct {
	at  int
	err api.Errno
}

// source is a production, and the pieces of a text that it is to be read from.
type source struct {
	prod   api.Prod
	pieces []string
}

// allByRules returns what All is to return for texts one after the other, the
// first of which begins at 0.
func allByRules(l []source, texts []string) ([]api.Prod, result) {
	at := 0
	var whole []api.Prod
	for i, s := range l {
		if _, err := shape.Shape(s.prod); err != api.OK {
			return nil, result{at, err}
		}
		whole = append(whole, s.prod)
		at += len(texts[i])
	}
	return whole, result{-1, api.OK}
}
