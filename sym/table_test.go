package sym_test

import (
	"iter"
	"math"
	"slices"
	"strconv"
	"strings"
	"testing"
	"unsafe"

	"ponder/api"
	"ponder/sym"
)

// symbols reads a list such as "S1 7 red".
func symbols(t *testing.T, list string) []api.Sym {
	t.Helper()
	var l []api.Sym
	for _, w := range strings.Fields(list) {
		s, ok := meant(w)
		if !ok {
			t.Fatalf("no symbol: %s", w)
		}
		l = append(l, s)
	}
	return l
}

func text(l iter.Seq[api.Sym]) string {
	var words []string
	for s := range l {
		if s.Kind == api.Int || s.Kind == api.Id {
			words = append(words, s.Text+strconv.Itoa(s.N))
		} else {
			words = append(words, s.Text)
		}
	}
	return strings.Join(words, " ")
}

func newTable(t *testing.T, room int) *sym.Table {
	t.Helper()
	tab, err := sym.New(room)
	if err != api.OK || tab == nil {
		t.Fatalf("no table for %d symbols: %d", room, err)
	}
	return tab
}

func table(t *testing.T, room int, list string) *sym.Table {
	t.Helper()
	tab := newTable(t, room)
	if err := tab.Put(symbols(t, list)...); err != api.OK {
		t.Fatalf("Put of %s: %d", list, err)
	}
	return tab
}

// nexts are the letters whose Next is not 1, and their Next.
func nexts(tab *sym.Table) string {
	var words []string
	for c := byte('A'); c <= 'Z'; c++ {
		if n := tab.Next(c); n != 1 {
			words = append(words, string([]byte{c})+strconv.Itoa(n))
		}
	}
	return strings.Join(words, " ")
}

// greatest is what Next is to be, told as by nexts, worked out from the symbols alone.
func greatest(l []api.Sym) string {
	var n ['Z' + 1]int
	for _, s := range l {
		if s.Kind == api.Id {
			n[s.Text[0]] = max(n[s.Text[0]], s.N)
		}
	}
	var words []string
	for c := 'A'; c <= 'Z'; c++ {
		if n[c] > 0 {
			words = append(words, string(c)+strconv.Itoa(n[c]+1))
		}
	}
	return strings.Join(words, " ")
}

// holds asks the table for its symbols, given in their order, in every way that there is.
func holds(t *testing.T, what string, tab *sym.Table, list string) {
	t.Helper()
	l := symbols(t, list)
	equal(t, what+": Len", tab.Len(), len(l))
	equal(t, what+": All", text(tab.All()), strings.Join(strings.Fields(list), " "))
	equal(t, what+": Next", nexts(tab), greatest(l))
	for _, s := range l {
		equal(t, what+": Has "+sym.Text(s), tab.Has(s), true)
	}
	for _, s := range symbols(t, "S1 S2 S3 S4 S5 A1 A2 B7 Z1 -1 0 1 2 3 7 a b c red s1 nil") {
		equal(t, what+": Has "+sym.Text(s), tab.Has(s), slices.Contains(l, s))
	}
	for _, s := range invalid() {
		equal(t, what+": Has a symbol that is not valid", tab.Has(s), false)
	}
}

// P4.2

func TestNew(t *testing.T) {
	for _, room := range []int{1, 2, 1000, api.MaxSyms - 1, api.MaxSyms} {
		holds(t, "a new table", newTable(t, room), "")
	}
	for _, room := range []int{0, -1, -api.MaxSyms, math.MinInt, api.MaxSyms + 1, api.MaxSeq, 1<<32 + 1, math.MaxInt} {
		tab, err := sym.New(room)
		equal(t, "New of "+strconv.Itoa(room), err, api.ErrArg)
		equal(t, "the table", tab, nil)
	}
}

func TestPut(t *testing.T) {
	tab := newTable(t, 7)
	for _, c := range []struct {
		list  string
		err   api.Errno
		after string
	}{
		{"", api.OK, ""},
		{"red", api.OK, "red"},
		{"red red", api.OK, "red"},
		{"S2 7 S1", api.OK, "S1 S2 7 red"},
		{"a b c d", api.ErrSyms, "S1 S2 7 red"},
		{"S5 A1 B7 0", api.ErrSyms, "S1 S2 7 red"},
		{"S2 7 a red a", api.OK, "S1 S2 7 a red"},
		{"B7 B7 B7 S1 -1 -1", api.OK, "B7 S1 S2 -1 7 a red"},
		{"b", api.ErrSyms, "B7 S1 S2 -1 7 a red"},
		{"S3", api.ErrSyms, "B7 S1 S2 -1 7 a red"},
		{"S1 S2 b", api.ErrSyms, "B7 S1 S2 -1 7 a red"},
		{"red a 7 -1 S2 S1 B7 red", api.OK, "B7 S1 S2 -1 7 a red"},
		{"", api.OK, "B7 S1 S2 -1 7 a red"},
	} {
		equal(t, "Put of "+c.list, tab.Put(symbols(t, c.list)...), c.err)
		holds(t, "after Put of "+c.list, tab, c.after)
	}
}

func TestPutFillsTheRoom(t *testing.T) {
	for _, room := range []int{1, 2, 3, 50, api.MaxSyms} {
		var l []api.Sym
		for n := range room + 1 {
			l = append(l, number(n), number(n))
		}
		tab := newTable(t, room)
		equal(t, "Put of one too many", tab.Put(l...), api.ErrSyms)
		equal(t, "Len after it", tab.Len(), 0)
		equal(t, "Put of as many as have room", tab.Put(l[:2*room]...), api.OK)
		equal(t, "Len after it", tab.Len(), room)
		equal(t, "Put of one more", tab.Put(l[2*room]), api.ErrSyms)
		equal(t, "Put of all again", tab.Put(l[:2*room]...), api.OK)
		equal(t, "Put of all again and one more", tab.Put(l...), api.ErrSyms)
		equal(t, "Len in the end", tab.Len(), room)
		equal(t, "whether the one too many is known", tab.Has(l[2*room]), false)
	}
}

func TestPutOfInvalidSymbols(t *testing.T) {
	good := symbols(t, "S5 a 7 B7")
	for _, bad := range invalid() {
		for place := range len(good) + 1 {
			tab := table(t, 9, "S1 red")
			equal(t, "Put", tab.Put(slices.Insert(slices.Clone(good), place, bad)...), api.ErrForm)
			holds(t, "after Put", tab, "S1 red")
		}
		full := table(t, 2, "S1 red")
		equal(t, "Put of it alone, without room", full.Put(bad), api.ErrForm)
		equal(t, "Put of it in front of one without room", full.Put(bad, word("b")), api.ErrForm)
		equal(t, "Put of it behind some without room", full.Put(word("b"), id("S", 2), bad), api.ErrForm)
		holds(t, "after them", full, "S1 red")
	}
}

func TestPutLeavesItsListAlone(t *testing.T) {
	whole := symbols(t, "red S2 7 S9 b")
	list := whole[:3]
	tab := newTable(t, 4)
	equal(t, "Put", tab.Put(list...), api.OK)
	equal(t, "the list and what lies behind it", text(slices.Values(whole)), "red S2 7 S9 b")
	list[0], list[1] = word("c"), id("S", 5)
	holds(t, "after the list was written to", tab, "S2 7 red")
	tab.Fresh('S')
	equal(t, "the list after the table was changed", text(slices.Values(whole)), "c S5 7 S9 b")
}

func TestPutDoesNotKeepTheTextThatAWordIsPartOf(t *testing.T) {
	whole := strings.Repeat("red ", 1000)
	tab := newTable(t, 1)
	tab.Put(word(whole[:3]))
	for s := range tab.All() {
		equal(t, "the word", s, word("red"))
		equal(t, "whether its bytes are the text's", unsafe.StringData(s.Text) == unsafe.StringData(whole), false)
	}
}

func TestHasTellsSymbolsApart(t *testing.T) {
	tab := table(t, 9, "S1 1 s1 -1")
	for _, s := range symbols(t, "S2 T1 s s2 S10 11 0 2") {
		equal(t, "Has "+sym.Text(s), tab.Has(s), false)
	}
	holds(t, "after questions", tab, "S1 -1 1 s1")
}

func TestAll(t *testing.T) {
	tab := table(t, 20, "b S10 -3 a A2 7 ab S9 a-b Z1 0 a_b a1")
	equal(t, "All", text(tab.All()), "A2 S9 S10 Z1 -3 0 7 a a-b a1 a_b ab b")
	equal(t, "All of none", text(newTable(t, 1).All()), "")
}

func TestAllIsLeftEarly(t *testing.T) {
	tab := table(t, 9, "S1 S2 S3 S4 S5")
	l := tab.All()
	for n := 1; n <= 5; n++ {
		var got []api.Sym
		l(func(s api.Sym) bool {
			got = append(got, s)
			return len(got) != n
		})
		equal(t, "All, left", text(slices.Values(got)), "S1 S2 S3 S4 S5"[:3*n-1])
	}
	equal(t, "All, after it was left", text(l), "S1 S2 S3 S4 S5")
}

func TestAllBeginsAnew(t *testing.T) {
	tab := newTable(t, 9)
	l := tab.All()
	equal(t, "All, while nothing is known", text(l), "")
	tab.Put(word("b"), word("d"))
	equal(t, "All, after some came", text(l), "b d")
	tab.Put(word("c"))
	tab.Fresh('X')
	equal(t, "All, after others came", text(l), "X1 b c d")
}

func TestAllSeesWhatWasThereAtItsBeginning(t *testing.T) {
	tab := table(t, 99, "S1 S2 b")
	l := tab.All()
	var got []string
	for s := range l {
		tab.Put(word("a"), word("c"), id("T", 9))
		tab.Fresh('S')
		got = append(got, sym.Text(s)+": "+text(l))
	}
	equal(t, "one sequence within itself", strings.Join(got, ", "),
		"S1: S1 S2 S3 T9 a b c, S2: S1 S2 S3 S4 T9 a b c, b: S1 S2 S3 S4 S5 T9 a b c")
}

func TestCloneIsIndependent(t *testing.T) {
	for name, made := range map[string]func(tab *sym.Table) *sym.Table{
		"a clone":         func(tab *sym.Table) *sym.Table { return tab.Clone() },
		"a clone's clone": func(tab *sym.Table) *sym.Table { return tab.Clone().Clone() },
	} {
		tab := table(t, 5, "S2 7 a")
		c := made(tab)
		l := c.All()
		holds(t, name, c, "S2 7 a")
		s, err := c.Fresh('S')
		equal(t, name+": Fresh", s, id("S", 3))
		equal(t, name+": Fresh's error", err, api.OK)
		equal(t, name+": Put beyond its room", c.Put(word("b"), word("c")), api.ErrSyms)
		equal(t, name+": Put", c.Put(word("b")), api.OK)
		holds(t, name+", changed", c, "S2 S3 7 a b")
		holds(t, name+": the old one, after the new one changed", tab, "S2 7 a")
		equal(t, name+": the old one: Put", tab.Put(id("S", 5), id("B", 7)), api.OK)
		equal(t, name+": the old one: Put beyond its room", tab.Put(word("b")), api.ErrSyms)
		holds(t, name+", after the old one changed", c, "S2 S3 7 a b")
		holds(t, name+": the old one", tab, "B7 S2 S5 7 a")
		equal(t, name+": its sequence", text(l), "S2 S3 7 a b")
	}
	empty := newTable(t, 1)
	c := empty.Clone()
	equal(t, "Put to the clone of an empty table", c.Put(id("S", 4)), api.OK)
	equal(t, "Put of one too many to it", c.Put(id("S", 5)), api.ErrSyms)
	holds(t, "an empty table, after its clone changed", empty, "")
	holds(t, "the clone of an empty table", c, "S4")
}

func TestCloneDuringALoop(t *testing.T) {
	tab := table(t, 9, "S1 S3")
	var clones []*sym.Table
	for range tab.All() {
		clones = append(clones, tab.Clone())
		tab.Fresh('S')
	}
	equal(t, "how many clones", len(clones), 2)
	holds(t, "the first clone", clones[0], "S1 S3")
	holds(t, "the second clone", clones[1], "S1 S3 S4")
	holds(t, "the table", tab, "S1 S3 S4 S5")
}

// P4.3

func TestNext(t *testing.T) {
	tab := newTable(t, 99)
	for _, c := range []struct{ list, nexts string }{
		{"", ""},
		{"S5", "S6"},
		{"S3", "S6"},
		{"S5 S4", "S6"},
		{"S6 A1", "A2 S7"},
		{"S9 S12 S10", "A2 S13"},
		{"12 s20 t3 -4 z", "A2 S13"},
		{"Z7 B1 Z6", "A2 B2 S13 Z8"},
		{"S1048575", "A2 B2 S1048576 Z8"},
		{"S1048576", "A2 B2 S1048577 Z8"},
	} {
		equal(t, "Put of "+c.list, tab.Put(symbols(t, c.list)...), api.OK)
		equal(t, "Next after Put of "+c.list, nexts(tab), c.nexts)
		equal(t, "Next, again", nexts(tab), c.nexts)
	}
}

func TestNextOfEachByte(t *testing.T) {
	tab := table(t, 9, "S4 a 5 Z1")
	for b := range 256 {
		want := 0
		switch {
		case b == 'S':
			want = 5
		case b == 'Z':
			want = 2
		case b >= 'A' && b <= 'Z':
			want = 1
		}
		equal(t, "Next of byte "+strconv.Itoa(b), tab.Next(byte(b)), want)
	}
	holds(t, "after questions", tab, "S4 Z1 5 a")
}

// made asks for a new identifier and holds it, and what is then known, to what is to be.
func made(t *testing.T, tab *sym.Table, letter byte, want, after string) {
	t.Helper()
	s, err := tab.Fresh(letter)
	equal(t, "Fresh's error", err, api.OK)
	equal(t, "Fresh", s, symbols(t, want)[0])
	equal(t, "whether it is known", tab.Has(s), true)
	holds(t, "after Fresh of "+want, tab, after)
}

func TestFresh(t *testing.T) {
	tab := newTable(t, 9)
	made(t, tab, 'S', "S1", "S1")
	made(t, tab, 'S', "S2", "S1 S2")
	made(t, tab, 'A', "A1", "A1 S1 S2")
	tab.Put(id("S", 7), word("s9"), number(30))
	made(t, tab, 'S', "S8", "A1 S1 S2 S7 S8 30 s9")
	tab.Put(id("S", 5))
	made(t, tab, 'S', "S9", "A1 S1 S2 S5 S7 S8 S9 30 s9")
}

func TestFreshOfEachByte(t *testing.T) {
	for _, room := range []int{1, 30} {
		tab := table(t, room, "nil")
		for b := range 256 {
			s, err := tab.Fresh(byte(b))
			switch {
			case b < 'A' || b > 'Z':
				equal(t, "Fresh's error for byte "+strconv.Itoa(b), err, api.ErrArg)
				equal(t, "Fresh", s, api.Sym{})
			case room == 1:
				equal(t, "Fresh's error without room", err, api.ErrSyms)
				equal(t, "Fresh without room", s, api.Sym{})
			default:
				equal(t, "Fresh's error for byte "+strconv.Itoa(b), err, api.OK)
				equal(t, "Fresh", s, id(string([]byte{byte(b)}), 1))
			}
		}
		equal(t, "Len in the end", tab.Len(), min(room, 27))
	}
}

func TestFreshFillsTheRoom(t *testing.T) {
	tab := newTable(t, api.MaxSyms)
	for n := range api.MaxSyms {
		s, err := tab.Fresh('Q')
		if s != id("Q", n+1) || err != api.OK {
			t.Fatalf("Fresh, time %d: %v, %d", n, s, err)
		}
	}
	for _, letter := range []byte("QRA") {
		s, err := tab.Fresh(letter)
		equal(t, "Fresh's error without room", err, api.ErrSyms)
		equal(t, "Fresh without room", s, api.Sym{})
	}
	equal(t, "Len", tab.Len(), api.MaxSyms)
	equal(t, "Next of Q", tab.Next('Q'), api.MaxSyms+1)
	equal(t, "Next of R", tab.Next('R'), 1)
}

func TestFreshBehindTheLastNumber(t *testing.T) {
	tab := table(t, 5, "S1048575")
	made(t, tab, 'S', "S1048576", "S1048575 S1048576")
	for range 2 {
		s, err := tab.Fresh('S')
		equal(t, "Fresh's error behind the last number", err, api.ErrSyms)
		equal(t, "Fresh behind the last number", s, api.Sym{})
		holds(t, "after it", tab, "S1048575 S1048576")
	}
	made(t, tab, 'T', "T1", "S1048575 S1048576 T1")
	tab.Put(id("S", 1))
	_, err := tab.Fresh('S')
	equal(t, "Fresh's error, though a lower number is free", err, api.ErrSyms)
}

// All promises of tables, over longer scripts.

// steps returns a function that yields numbers below its argument: many and mixed, but each time the same.
func steps(seed uint64) func(below int) int {
	return func(below int) int {
		seed = seed*6364136223846793005 + 1442695040888963407
		return int(seed >> 33 % uint64(below))
	}
}

// some returns a few symbols; of these one in forty is not valid.
func some(next func(below int) int) []api.Sym {
	bad := invalid()
	l := make([]api.Sym, next(6))
	for i := range l {
		switch next(4) {
		case 0:
			l[i] = number(next(30) - 15)
		case 1:
			l[i] = word(string([]byte{'a' + byte(next(26))}))
		default:
			l[i] = id(string([]byte{'A' + byte(next(5))}), 1+next(40))
		}
		if next(40) == 0 {
			l[i] = bad[next(len(bad))]
		}
	}
	return l
}

// sorted returns each symbol of l once, in order.
func sorted(l []api.Sym) []api.Sym {
	l = slices.SortedFunc(slices.Values(l), api.Sym.Compare)
	return slices.Compact(l)
}

// changed does the same to a table and to a plain list, and returns that list.
func changed(t *testing.T, next func(below int) int, room int, tab *sym.Table, want []api.Sym) []api.Sym {
	t.Helper()
	if next(3) == 0 {
		letter := 'A' + byte(next(6))
		n := tab.Next(letter)
		s, err := tab.Fresh(letter)
		if len(want) >= room {
			equal(t, "Fresh's error", err, api.ErrSyms)
			return want
		}
		equal(t, "Fresh's error", err, api.OK)
		equal(t, "Fresh", s, id(string([]byte{letter}), n))
		return sorted(append(slices.Clone(want), s))
	}
	l := some(next)
	err := tab.Put(l...)
	if slices.ContainsFunc(l, func(s api.Sym) bool { return !sym.Valid(s) }) {
		equal(t, "Put's error", err, api.ErrForm)
		return want
	}
	both := sorted(slices.Concat(want, l))
	if len(both) > room {
		equal(t, "Put's error", err, api.ErrSyms)
		return want
	}
	equal(t, "Put's error", err, api.OK)
	return both
}

func TestLongScripts(t *testing.T) {
	for room := 1; room <= 200; room += 33 {
		next := steps(uint64(room))
		tab := newTable(t, room)
		var want []api.Sym
		old, before := tab.Clone(), want
		all := tab.All()
		for i := 0; i < 400 && !t.Failed(); i++ {
			want = changed(t, next, room, tab, want)
			holds(t, "the table", tab, text(slices.Values(want)))
			equal(t, "a sequence of the beginning", text(all), text(slices.Values(want)))
			if i%20 == 0 {
				holds(t, "an older clone", old, text(slices.Values(before)))
				old, before = tab.Clone(), want
			}
		}
	}
}
