package sym

import (
	"cmp"
	"iter"
	"strings"

	"ponder/api"
	"ponder/book"
	"ponder/order"
)

// Table keeps the greatest numbers beside the symbols, so that a new identifier
// does not have to look for its number among them. Both only ever grow.
type Table struct {
	known    *order.Set[api.Sym]
	greatest *book.Map[capital, int]
	room     int
}

// capital is the letter of an identifier, as a key.
type capital byte

func (c capital) Compare(d capital) int {
	return cmp.Compare(c, d)
}

func New(room int) (*Table, api.Errno) {
	if room < 1 || room > api.MaxSyms {
		return nil, api.ErrArg
	}
	return &Table{known: order.New[api.Sym](), greatest: book.New[capital, int](), room: room}, api.OK
}

func (t *Table) Put(l ...api.Sym) api.Errno {
	for _, s := range l {
		if !Valid(s) {
			return api.ErrForm
		}
	}
	more := t.unknown(l)
	if t.Len()+more.Len() > t.room {
		return api.ErrSyms
	}
	for s := range more.All() {
		t.add(s)
	}
	return api.OK
}

// unknown returns a set, as a symbol that occurs twice takes room only once.
func (t *Table) unknown(l []api.Sym) *order.Set[api.Sym] {
	more := order.New[api.Sym]()
	for _, s := range l {
		if !t.Has(s) {
			more.Put(s)
		}
	}
	return more
}

// add is for valid symbols that have room. The Text may be a piece of a long
// text, all of which the table would keep if it did not take a copy.
func (t *Table) add(s api.Sym) {
	s.Text = strings.Clone(s.Text)
	t.known.Put(s)
	if s.Kind == api.Id && s.N >= t.Next(s.Text[0]) {
		t.greatest.Put(capital(s.Text[0]), s.N)
	}
}

func (t *Table) Fresh(letter byte) (api.Sym, api.Errno) {
	if !isCapital(letter) {
		return api.Sym{}, api.ErrArg
	}
	n := t.Next(letter)
	if t.Len() >= t.room || n > api.MaxSeq {
		return api.Sym{}, api.ErrSyms
	}
	s := api.Sym{Kind: api.Id, Text: string(rune(letter)), N: n}
	t.add(s)
	return s, api.OK
}

func (t *Table) Has(s api.Sym) bool {
	_, ok := t.known.Get(s)
	return ok
}

func (t *Table) Len() int {
	return t.known.Len()
}

// Next leans on the numbers of identifiers beginning with 1: a letter that is
// not in the map has 0 as its greatest one.
func (t *Table) Next(letter byte) int {
	if !isCapital(letter) {
		return 0
	}
	n, _ := t.greatest.Get(capital(letter))
	return n + 1
}

func (t *Table) All() iter.Seq[api.Sym] {
	return t.known.All()
}

func (t *Table) Clone() *Table {
	return &Table{known: t.known.Clone(), greatest: t.greatest.Clone(), room: t.room}
}
