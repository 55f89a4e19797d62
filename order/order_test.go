package order_test

import (
	"iter"
	"math"
	"slices"
	"strconv"
	"strings"
	"testing"
	"time"

	"ponder/api"
	"ponder/order"
)

// item is compared by its key alone; the mark tells two equal ones apart.
type item struct {
	key  int
	mark string
}

// Compare returns the greatest numbers that there are: only their sign counts,
// and -math.MinInt is math.MinInt.
func (a item) Compare(b item) int {
	switch {
	case a.key < b.key:
		return math.MinInt
	case a.key > b.key:
		return math.MaxInt
	}
	return 0
}

// items reads a list such as "1a 3b".
func items(t *testing.T, list string) []item {
	t.Helper()
	var l []item
	for _, w := range strings.Fields(list) {
		digits := strings.TrimRight(w, "abcdefghijklmnopqrstuvwxyz")
		key, err := strconv.Atoi(digits)
		if err != nil {
			t.Fatal(err)
		}
		l = append(l, item{key, w[len(digits):]})
	}
	return l
}

func set(t *testing.T, list string) *order.Set[item] {
	t.Helper()
	return order.New(items(t, list)...)
}

func text(l iter.Seq[item]) string {
	var words []string
	for x := range l {
		words = append(words, strconv.Itoa(x.key)+x.mark)
	}
	return strings.Join(words, " ")
}

func equal[V comparable](t *testing.T, what string, got, want V) {
	t.Helper()
	if got != want {
		t.Errorf("%s: got %v, want %v", what, got, want)
	}
}

// holds asks the set for its members in every way that there is.
func holds(t *testing.T, what string, s *order.Set[item], list string) {
	t.Helper()
	want := items(t, list)
	equal(t, what+": Len", s.Len(), len(want))
	equal(t, what+": All", text(s.All()), text(slices.Values(want)))
	for i, x := range want {
		got, ok := s.At(i)
		equal(t, what+": At", got, x)
		equal(t, what+": whether At", ok, true)
		got, ok = s.Get(item{x.key, "other"})
		equal(t, what+": Get", got, x)
		equal(t, what+": whether Get", ok, true)
		place, ok := s.Place(item{x.key, "other"})
		equal(t, what+": Place", place, i)
		equal(t, what+": whether Place", ok, true)
		equal(t, what+": From", text(s.From(item{x.key, "other"})), text(slices.Values(want[i:])))
	}
	slices.Reverse(want)
	equal(t, what+": Back", text(s.Back()), text(slices.Values(want)))
}

// P1.1

func TestNew(t *testing.T) {
	holds(t, "no values", order.New[item](), "")
	holds(t, "a nil list", order.New([]item(nil)...), "")
	holds(t, "one value", set(t, "4a"), "4a")
	holds(t, "not in order", set(t, "3a 1b 2c"), "1b 2c 3a")
	holds(t, "equal ones: the first stays", set(t, "2a 1b 2c 1d 3e 2f"), "1b 2a 3e")
	holds(t, "all equal", set(t, "7c 7b 7a"), "7c")
}

func TestNewLeavesItsListAlone(t *testing.T) {
	whole := items(t, "5a 2b 5c 9d 1e")
	list := whole[:3]
	s := order.New(list...)
	equal(t, "the list and what lies behind it", text(slices.Values(whole)), "5a 2b 5c 9d 1e")
	list[0], list[1] = item{8, "x"}, item{9, "y"}
	holds(t, "after the list was written to", s, "2b 5a")
	s.Put(item{1, "z"})
	s.Put(item{7, "z"})
	s.Drop(item{2, ""})
	equal(t, "the list after the set was changed", text(slices.Values(whole)), "8x 9y 5c 9d 1e")
}

func TestPut(t *testing.T) {
	s := order.New[item]()
	for _, c := range []struct {
		x     item
		added bool
		after string
	}{
		{item{5, "a"}, true, "5a"},
		{item{5, "b"}, false, "5a"},
		{item{9, "c"}, true, "5a 9c"},
		{item{-3, "d"}, true, "-3d 5a 9c"},
		{item{7, "e"}, true, "-3d 5a 7e 9c"},
		{item{-3, "f"}, false, "-3d 5a 7e 9c"},
		{item{9, "g"}, false, "-3d 5a 7e 9c"},
		{item{0, ""}, true, "-3d 0 5a 7e 9c"},
		{item{7, "e"}, false, "-3d 0 5a 7e 9c"},
	} {
		equal(t, "Put", s.Put(c.x), c.added)
		holds(t, "after Put", s, c.after)
	}
}

func TestDrop(t *testing.T) {
	s := set(t, "1a 2b 3c 4d 5e")
	for _, c := range []struct {
		key   int
		gone  bool
		after string
	}{
		{0, false, "1a 2b 3c 4d 5e"},
		{6, false, "1a 2b 3c 4d 5e"},
		{3, true, "1a 2b 4d 5e"},
		{3, false, "1a 2b 4d 5e"},
		{1, true, "2b 4d 5e"},
		{5, true, "2b 4d"},
		{2, true, "4d"},
		{4, true, ""},
		{4, false, ""},
	} {
		equal(t, "Drop", s.Drop(item{c.key, "other"}), c.gone)
		holds(t, "after Drop", s, c.after)
	}
	equal(t, "Put of a value that went", s.Put(item{3, "new"}), true)
	holds(t, "after all went", s, "3new")
}

func TestGet(t *testing.T) {
	s := set(t, "10a 20b 30c")
	for _, c := range []struct {
		key  int
		want item
		ok   bool
	}{
		{9, item{}, false}, {10, item{10, "a"}, true}, {11, item{}, false}, {20, item{20, "b"}, true},
		{29, item{}, false}, {30, item{30, "c"}, true}, {31, item{}, false},
	} {
		got, ok := s.Get(item{c.key, "other"})
		equal(t, "Get", got, c.want)
		equal(t, "whether Get", ok, c.ok)
	}
	got, ok := order.New[item]().Get(item{0, "other"})
	equal(t, "Get of no members", got, item{})
	equal(t, "whether Get of no members", ok, false)
}

func TestPlace(t *testing.T) {
	s := set(t, "10a 20b 30c")
	for _, c := range []struct {
		key, want int
		ok        bool
	}{
		{9, 0, false}, {10, 0, true}, {11, 1, false}, {20, 1, true},
		{29, 2, false}, {30, 2, true}, {31, 3, false}, {math.MinInt, 0, false}, {math.MaxInt, 3, false},
	} {
		got, ok := s.Place(item{c.key, "other"})
		equal(t, "Place", got, c.want)
		equal(t, "whether Place", ok, c.ok)
	}
	got, ok := order.New[item]().Place(item{0, ""})
	equal(t, "Place among no members", got, 0)
	equal(t, "whether Place among no members", ok, false)
}

func TestAt(t *testing.T) {
	s := set(t, "30c 10a 20b")
	for i, want := range items(t, "10a 20b 30c") {
		got, ok := s.At(i)
		equal(t, "At", got, want)
		equal(t, "whether At", ok, true)
	}
	for _, i := range []int{-1, -2, -3, -4, 3, 4, math.MinInt, math.MaxInt} {
		got, ok := s.At(i)
		equal(t, "At without such an index", got, item{})
		equal(t, "whether there is such an index", ok, false)
	}
	_, ok := order.New[item]().At(0)
	equal(t, "At(0) of no members", ok, false)
}

func TestQuestionsChangeNothing(t *testing.T) {
	s := set(t, "1a 3c 5e")
	s.Get(item{2, "x"})
	s.Get(item{3, "x"})
	s.Place(item{4, "x"})
	s.At(1)
	s.At(7)
	s.Len()
	holds(t, "after questions", s, "1a 3c 5e")
}

func TestSymbols(t *testing.T) {
	s1, s2 := api.Sym{Kind: api.Id, Text: "S", N: 1}, api.Sym{Kind: api.Id, Text: "S", N: 2}
	s := order.New(s2, s1, s2)
	equal(t, "Len", s.Len(), 2)
	first, ok := s.At(0)
	equal(t, "At(0)", first, s1)
	equal(t, "whether At(0)", ok, true)
	word, number := api.Sym{Kind: api.Str, Text: "a"}, api.Sym{Kind: api.Int, N: -4}
	s.Put(word)
	s.Put(number)
	if got := slices.Collect(s.All()); !slices.Equal(got, []api.Sym{s1, s2, number, word}) {
		t.Errorf("symbols in order: %v", got)
	}
}

func TestElements(t *testing.T) {
	a := api.Elem{Id: api.Sym{Kind: api.Id, Text: "S", N: 1}, Attr: api.Sym{Kind: api.Str, Text: "x"}, Tag: 4}
	acc, later := a, a
	acc.Acc, acc.Tag = true, 3
	later.Goal, later.Tag = true, 9
	s := order.New(acc, a)
	equal(t, "Put of an element with another tag", s.Put(later), false)
	if got := slices.Collect(s.All()); !slices.Equal(got, []api.Elem{a, acc}) {
		t.Errorf("elements in order: %v", got)
	}
}

// P1.2

func TestAllAndBack(t *testing.T) {
	s := set(t, "4d 2b 1a 3c")
	equal(t, "All", text(s.All()), "1a 2b 3c 4d")
	equal(t, "Back", text(s.Back()), "4d 3c 2b 1a")
	empty := order.New[item]()
	equal(t, "All of none", text(empty.All()), "")
	equal(t, "Back of none", text(empty.Back()), "")
}

func TestFrom(t *testing.T) {
	s := set(t, "10a 20b 30c 40d 50e 60f 70g")
	for _, c := range []struct {
		key  int
		want string
	}{
		{math.MinInt, "10a 20b 30c 40d 50e 60f 70g"}, {9, "10a 20b 30c 40d 50e 60f 70g"}, {10, "10a 20b 30c 40d 50e 60f 70g"},
		{11, "20b 30c 40d 50e 60f 70g"}, {40, "40d 50e 60f 70g"}, {41, "50e 60f 70g"}, {59, "60f 70g"},
		{69, "70g"}, {70, "70g"}, {71, ""}, {math.MaxInt, ""},
	} {
		equal(t, "From "+strconv.Itoa(c.key), text(s.From(item{c.key, "other"})), c.want)
	}
	equal(t, "From of none", text(order.New[item]().From(item{0, ""})), "")
}

// sequences are the three of a set, as far as From begins with its first member.
func sequences(s *order.Set[item]) map[string]iter.Seq[item] {
	return map[string]iter.Seq[item]{"All": s.All(), "From": s.From(item{1, ""}), "Back": s.Back()}
}

func TestLoopsAreLeftEarly(t *testing.T) {
	s := set(t, "1a 2b 3c 4d 5e 6f 7g 8h 9i")
	for name, l := range sequences(s) {
		whole := text(l)
		for most := 1; most <= 9; most++ {
			var got []item
			l(func(x item) bool {
				got = append(got, x)
				return len(got) != most
			})
			equal(t, name+", left", len(got), most)
			equal(t, name+", what came before", text(slices.Values(got)), whole[:3*most-1])
		}
		equal(t, name+", again after it was left", text(l), whole)
	}
}

func TestLoopsBeginAnew(t *testing.T) {
	s := set(t, "1a 2b 3c 4d")
	l := sequences(s)
	for name := range l {
		for range l[name] {
			break
		}
	}
	s.Drop(item{2, ""})
	s.Put(item{9, "z"})
	s.Put(item{0, "y"})
	equal(t, "All", text(l["All"]), "0y 1a 3c 4d 9z")
	equal(t, "From", text(l["From"]), "1a 3c 4d 9z")
	equal(t, "Back", text(l["Back"]), "9z 4d 3c 1a 0y")
	s.Drop(item{4, ""})
	equal(t, "All, a third time", text(l["All"]), "0y 1a 3c 9z")
}

func TestLoopsSeeWhatWasThereAtTheirBeginning(t *testing.T) {
	for name, want := range map[string]string{"All": "1a 3c 5e 7g", "From": "1a 3c 5e 7g", "Back": "7g 5e 3c 1a"} {
		s := set(t, "1a 3c 5e 7g")
		var got []item
		for x := range sequences(s)[name] {
			got = append(got, x)
			s.Drop(item{1, ""})
			s.Drop(item{5, ""})
			s.Drop(item{7, ""})
			s.Put(item{1, "new"})
			s.Put(item{2, "new"})
			s.Put(item{7, "new"})
			s.Put(item{8, "new"})
		}
		equal(t, name+" under changes", text(slices.Values(got)), want)
		holds(t, name+", afterwards", s, "1new 2new 3c 7new 8new")
	}
}

func TestLoopThatDropsAll(t *testing.T) {
	s := set(t, "1a 2b 3c 4d 5e 6f 7g")
	seen := 0
	for x := range s.All() {
		seen++
		equal(t, "Drop", s.Drop(x), true)
		equal(t, "Len meanwhile", s.Len(), 7-seen)
	}
	equal(t, "members seen", seen, 7)
	holds(t, "afterwards", s, "")
}

func TestLoopsWithinLoops(t *testing.T) {
	s := set(t, "1a 2b 3c")
	l := s.All()
	var got []string
	for x := range l {
		s.Drop(x)
		got = append(got, strconv.Itoa(x.key)+":"+text(l))
	}
	equal(t, "one sequence within itself", strings.Join(got, ", "), "1:2b 3c, 2:3c, 3:")
}

// P1.3

func TestUnionMeetLess(t *testing.T) {
	for _, c := range []struct{ a, b, union, meet, less string }{
		{"", "", "", "", ""},
		{"1a 2a", "", "1a 2a", "", "1a 2a"},
		{"", "1b 2b", "1b 2b", "", ""},
		{"1a 2a 3a", "2b 3b 4b", "1a 2a 3a 4b", "2a 3a", "1a"},
		{"2a 3a 4a", "1b 2b 3b", "1b 2a 3a 4a", "2a 3a", "4a"},
		{"1a 3a", "2b 4b", "1a 2b 3a 4b", "", "1a 3a"},
		{"1a 2a", "8b 9b", "1a 2a 8b 9b", "", "1a 2a"},
		{"8a 9a", "1b 2b", "1b 2b 8a 9a", "", "8a 9a"},
		{"1a 2a 3a", "1b 2b 3b", "1a 2a 3a", "1a 2a 3a", ""},
		{"5a", "1b 2b 3b 4b 5b 6b 7b 8b", "1b 2b 3b 4b 5a 6b 7b 8b", "5a", ""},
		{"1a 2a 3a 4a 5a 6a 7a 8a", "5b", "1a 2a 3a 4a 5a 6a 7a 8a", "5a", "1a 2a 3a 4a 6a 7a 8a"},
	} {
		a, b := set(t, c.a), set(t, c.b)
		what := " of " + c.a + " and " + c.b
		holds(t, "Union"+what, order.Union(a, b), c.union)
		holds(t, "Meet"+what, order.Meet(a, b), c.meet)
		holds(t, "Less"+what, order.Less(a, b), c.less)
		holds(t, "a, afterwards", a, c.a)
		holds(t, "b, afterwards", b, c.b)
	}
	s := set(t, "1a 2b")
	holds(t, "Union with itself", order.Union(s, s), "1a 2b")
	holds(t, "Meet with itself", order.Meet(s, s), "1a 2b")
	holds(t, "Less itself", order.Less(s, s), "")
}

func TestSame(t *testing.T) {
	for _, c := range []struct {
		a, b string
		want bool
	}{
		{"", "", true}, {"1a", "", false}, {"1a 2a 3a", "3b 2b 1b", true}, {"1a 2a", "1a 2a 3a", false},
		{"1a 2a 3a", "2a 3a", false}, {"1a 2a 3a", "1a 2a 4a", false}, {"1a 2a 3a", "0a 2a 3a", false}, {"1a 3a 5a", "1a 4a 5a", false},
	} {
		equal(t, "Same of "+c.a+" and "+c.b, order.Same(set(t, c.a), set(t, c.b)), c.want)
		equal(t, "Same of "+c.b+" and "+c.a, order.Same(set(t, c.b), set(t, c.a)), c.want)
	}
	one, other := set(t, "1a 2b 3c 4d 5e"), set(t, "5x 4x 3x 2x 1x 9x")
	other.Drop(item{9, ""})
	equal(t, "Same, made in another way", order.Same(one, other), true)
	equal(t, "Same as itself", order.Same(one, one), true)
}

func TestNewSetsAreIndependent(t *testing.T) {
	empty := order.New[item]()
	for name, made := range map[string]func(a, b *order.Set[item]) *order.Set[item]{
		"Clone":            func(a, b *order.Set[item]) *order.Set[item] { return a.Clone() },
		"Union":            order.Union[item],
		"Union with none":  func(a, b *order.Set[item]) *order.Set[item] { return order.Union(a, empty) },
		"Union of none":    func(a, b *order.Set[item]) *order.Set[item] { return order.Union(empty, a) },
		"Union, the same":  func(a, b *order.Set[item]) *order.Set[item] { return order.Union(a, a) },
		"Meet":             order.Meet[item],
		"Meet, the same":   func(a, b *order.Set[item]) *order.Set[item] { return order.Meet(a, a) },
		"Less":             func(a, b *order.Set[item]) *order.Set[item] { return order.Less(a, empty) },
		"a clone's clone":  func(a, b *order.Set[item]) *order.Set[item] { return a.Clone().Clone() },
		"Less of no equal": func(a, b *order.Set[item]) *order.Set[item] { return order.Less(a, set(t, "7x")) },
	} {
		a, b := set(t, "1a 2b 3c"), set(t, "1x 2x 3x")
		c := made(a, b)
		holds(t, name, c, "1a 2b 3c")
		c.Drop(item{2, ""})
		c.Put(item{8, "c"})
		holds(t, name+": a after the new one changed", a, "1a 2b 3c")
		holds(t, name+": b after the new one changed", b, "1x 2x 3x")
		a.Drop(item{1, ""})
		a.Put(item{0, "a"})
		b.Drop(item{3, ""})
		b.Put(item{9, "b"})
		holds(t, name+" after the old ones changed", c, "1a 3c 8c")
		holds(t, name+": a in the end", a, "0a 2b 3c")
		holds(t, name+": b in the end", b, "1x 2x 9b")
		holds(t, name+": the empty one", empty, "")
	}
}

func TestCloneDuringALoop(t *testing.T) {
	s := set(t, "1a 2b 3c")
	clones := map[int]*order.Set[item]{}
	for x := range s.All() {
		clones[x.key] = s.Clone()
		s.Drop(x)
	}
	holds(t, "the first clone", clones[1], "1a 2b 3c")
	holds(t, "the second clone", clones[2], "2b 3c")
	holds(t, "the third clone", clones[3], "3c")
	holds(t, "the set", s, "")
}

// All promises, over longer scripts.

// list is a set in the plainest way that there is.
type list []item

func (l list) place(key int) (int, bool) {
	for i, x := range l {
		if x.key >= key {
			return i, x.key == key
		}
	}
	return len(l), false
}

func (l *list) put(x item) bool {
	i, there := l.place(x.key)
	if !there {
		*l = slices.Insert(slices.Clone(*l), i, x)
	}
	return !there
}

func (l *list) drop(key int) bool {
	i, there := l.place(key)
	if there {
		*l = slices.Delete(slices.Clone(*l), i, i+1)
	}
	return there
}

// agree compares a set with a list by a question of each kind.
func agree(t *testing.T, s *order.Set[item], l list, key int) {
	t.Helper()
	x := item{key, "asked"}
	i, there := l.place(key)
	place, ok := s.Place(x)
	equal(t, "Place", place, i)
	equal(t, "whether Place", ok, there)
	want := item{}
	if there {
		want = l[i]
	}
	got, ok := s.Get(x)
	equal(t, "Get", got, want)
	equal(t, "whether Get", ok, there)
	want = item{}
	if key < len(l) {
		want = l[key]
	}
	got, ok = s.At(key)
	equal(t, "At", got, want)
	equal(t, "whether At", ok, key < len(l))
	if from := slices.Collect(s.From(x)); !slices.Equal(from, l[i:]) {
		t.Errorf("From: got %v, want %v", from, l[i:])
	}
}

func whole(t *testing.T, s *order.Set[item], l list) {
	t.Helper()
	equal(t, "Len", s.Len(), len(l))
	if all := slices.Collect(s.All()); !slices.Equal(all, l) {
		t.Errorf("All: got %v, want %v", all, l)
	}
	back := slices.Collect(s.Back())
	slices.Reverse(back)
	if !slices.Equal(back, l) {
		t.Errorf("Back, reversed: got %v, want %v", back, l)
	}
}

// steps returns a function that yields numbers below its argument: many and mixed, but each time the same.
func steps(seed uint64) func(below int) int {
	return func(below int) int {
		seed = seed*6364136223846793005 + 1442695040888963407
		return int(seed >> 33 % uint64(below))
	}
}

func TestLongScripts(t *testing.T) {
	for keys := 1; keys <= 300; keys += 23 {
		next := steps(uint64(keys))
		s, l := order.New[item](), list(nil)
		old, before := s.Clone(), l
		for i := 0; i < 900 && !t.Failed(); i++ {
			x := item{next(keys), "m" + strconv.Itoa(i)}
			// Long stretches of mostly adding and of mostly removing, so that sets grow and go.
			if next(5) < 1+i/150%2*3 {
				equal(t, "Drop", s.Drop(x), l.drop(x.key))
			} else {
				equal(t, "Put", s.Put(x), l.put(x))
			}
			agree(t, s, l, next(keys))
			if i%60 == 0 {
				whole(t, s, l)
				whole(t, old, before)
				old, before = s.Clone(), l
			}
		}
	}
}

func TestLongUnions(t *testing.T) {
	next := steps(7)
	for range 60 {
		a, b := order.New[item](), order.New[item]()
		var union, meet, less, la, lb list
		for range next(80) {
			x := item{next(60), "a"}
			a.Put(x)
			la.put(x)
		}
		for range next(80) {
			x := item{next(60), "b"}
			b.Put(x)
			lb.put(x)
		}
		for _, x := range la {
			union.put(x)
			if _, there := lb.place(x.key); there {
				meet.put(x)
			} else {
				less.put(x)
			}
		}
		for _, x := range lb {
			union.put(x)
		}
		whole(t, order.Union(a, b), union)
		whole(t, order.Meet(a, b), meet)
		whole(t, order.Less(a, b), less)
		whole(t, a, la)
		whole(t, b, lb)
		equal(t, "Same", order.Same(a, b), len(less) == 0 && len(la) == len(lb))
	}
}

func TestManyInOrder(t *testing.T) {
	const many = 20000
	up, down := order.New[item](), order.New[item]()
	for i := range many {
		up.Put(item{i, ""})
		down.Put(item{many - 1 - i, ""})
	}
	equal(t, "Len", up.Len(), many)
	equal(t, "Same", order.Same(up, down), true)
	for i := range many {
		x, _ := down.At(i)
		place, ok := up.Place(x)
		if x.key != i || place != i || !ok {
			t.Fatalf("At(%d) is %v, its place is %d, %v", i, x, place, ok)
		}
	}
	for i := range many / 2 {
		if !up.Drop(item{i, ""}) {
			t.Fatalf("Drop of %d", i)
		}
	}
	equal(t, "Len after half of them went", up.Len(), many/2)
	first, _ := up.At(0)
	equal(t, "the first one", first.key, many/2)
}

// odd has a Compare method that is no order.
type odd struct{ n, way int }

func (a odd) Compare(b odd) int {
	switch a.way {
	case 0:
		return 1
	case 1:
		return -1
	case 2:
		return (a.n+b.n)%3 - 1
	case 3:
		return (b.n - a.n + 7) % 3
	}
	return a.n*5%7 - b.n*3%5
}

func TestCallsEndWithoutAnOrder(t *testing.T) {
	done := make(chan bool)
	go func() {
		defer close(done)
		for way := range 5 {
			callAll(way)
		}
	}()
	select {
	case <-done:
	case <-time.After(time.Minute):
		t.Fatal("a call does not end")
	}
}

// callAll calls all there is, whatever the results.
func callAll(way int) {
	a, b := order.New[odd](), order.New(odd{3, way}, odd{1, way}, odd{2, way})
	for i := range 200 {
		a.Put(odd{i * 37 % 101, way})
		a.Drop(odd{i * 53 % 101, way})
		b.Put(odd{i, way})
		a.Get(odd{i, way})
		a.Place(odd{i, way})
		a.At(i)
	}
	for _, s := range []*order.Set[odd]{a, b, a.Clone(), order.Union(a, b), order.Meet(a, b), order.Less(b, a)} {
		order.Same(s, a)
		for x := range s.All() {
			s.Drop(x)
		}
		for x := range s.From(odd{5, way}) {
			s.Put(x)
		}
		for x := range s.Back() {
			s.Drop(x)
		}
	}
}
