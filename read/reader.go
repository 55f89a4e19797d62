package read

import "ponder/lex"

// reader takes the tokens of a text one by one. A token that can not be there
// turns Bad: as a Bad one is never taken, the reader then stands at it for good,
// whatever is still to be read.
type reader struct {
	text string
	at   int       // where the text behind what was taken begins
	next lex.Token // the first token behind that; Kind is 0 until it is asked for
}

// peek looks for the next token only here, so that the text is read no further
// than the rules ask.
func (r *reader) peek() lex.Token {
	if r.next.Kind != 0 {
		return r.next
	}
	for t := range lex.Tokens(r.text[r.at:]) {
		t.At += r.at
		r.next = t
		break
	}
	return r.next
}

func (r *reader) take() lex.Token {
	t := r.peek()
	r.at = t.At + size(t)
	r.next = lex.Token{}
	return t
}

// size counts the bytes of a token that is not Bad, as it stands in the text.
func size(t lex.Token) int {
	if t.Kind == lex.Var {
		return len("<") + len(t.Text) + len(">")
	}
	return len(t.Text)
}

// refuse is for the token that was looked at last.
func (r *reader) refuse() {
	r.next.Kind = lex.Bad
}

// stuck does not look for a token that was not asked for yet.
func (r *reader) stuck() bool {
	return r.next.Kind == lex.Bad
}

// takes takes the next token if it is that one.
func (r *reader) takes(kind int, text string) bool {
	t := r.peek()
	if t.Kind != kind || t.Text != text {
		return false
	}
	r.take()
	return true
}

func (r *reader) takesSign(text string) bool {
	return r.takes(lex.Sign, text)
}

func (r *reader) takesWord(text string) bool {
	return r.takes(lex.Word, text)
}

// needs takes the next token, which must be of that kind.
func (r *reader) needs(kind int) string {
	if r.peek().Kind != kind {
		r.refuse()
		return ""
	}
	return r.take().Text
}

func (r *reader) needsSign(text string) {
	if !r.takesSign(text) {
		r.refuse()
	}
}

func (r *reader) needsWord(text string) {
	if !r.takesWord(text) {
		r.refuse()
	}
}

// upTo reads one part or more, up to the sign that ends them.
func upTo[T any](r *reader, end string, part func() T) []T {
	l := []T{part()}
	for !r.takesSign(end) && !r.stuck() {
		l = append(l, part())
	}
	return l
}
