package book_test

import (
	"iter"
	"math"
	"slices"
	"strconv"
	"strings"
	"testing"
	"time"

	"ponder/api"
	"ponder/book"
	"ponder/order"
)

// item is compared by its key alone; the mark tells two equal ones apart.
type item struct {
	key  int
	mark string
}

// Compare returns the greatest numbers that there are: only their sign counts,
// and -math.MinInt is math.MinInt.
func (a item) Compare(b item) int {
	switch {
	case a.key < b.key:
		return math.MinInt
	case a.key > b.key:
		return math.MaxInt
	}
	return 0
}

func (a item) String() string {
	return strconv.Itoa(a.key) + a.mark
}

// other is equal to every item with this key, but not the same.
func other(key int) item {
	return item{key, "other"}
}

// entry is a key with its value.
type entry struct {
	key   item
	value int
}

// entries reads a list such as "1a=10 3b=0".
func entries(t *testing.T, list string) []entry {
	t.Helper()
	var l []entry
	for _, w := range strings.Fields(list) {
		left, right, _ := strings.Cut(w, "=")
		digits := strings.TrimRight(left, "abcdefghijklmnopqrstuvwxyz")
		key, err := strconv.Atoi(digits)
		if err != nil {
			t.Fatal(err)
		}
		value, err := strconv.Atoi(right)
		if err != nil {
			t.Fatal(err)
		}
		l = append(l, entry{item{key, left[len(digits):]}, value})
	}
	return l
}

// filled puts what the list says, one after the other.
func filled(t *testing.T, list string) *book.Map[item, int] {
	t.Helper()
	m := book.New[item, int]()
	for _, e := range entries(t, list) {
		m.Put(e.key, e.value)
	}
	return m
}

func text(l iter.Seq2[item, int]) string {
	var words []string
	for k, v := range l {
		words = append(words, k.String()+"="+strconv.Itoa(v))
	}
	return strings.Join(words, " ")
}

func keys(l iter.Seq[item]) string {
	var words []string
	for k := range l {
		words = append(words, k.String())
	}
	return strings.Join(words, " ")
}

func listed(l []entry) string {
	return text(func(yield func(item, int) bool) {
		for _, e := range l {
			if !yield(e.key, e.value) {
				return
			}
		}
	})
}

func listedKeys(l []entry) string {
	var words []string
	for _, e := range l {
		words = append(words, e.key.String())
	}
	return strings.Join(words, " ")
}

func equal[V comparable](t *testing.T, what string, got, want V) {
	t.Helper()
	if got != want {
		t.Errorf("%s: got %v, want %v", what, got, want)
	}
}

// first is what First of a map with these entries returns.
func first(l []entry) (item, int, bool) {
	if len(l) == 0 {
		return item{}, 0, false
	}
	return l[0].key, l[0].value, true
}

// holds asks the map for its keys and values in every way that there is.
func holds(t *testing.T, what string, m *book.Map[item, int], list string) {
	t.Helper()
	agrees(t, what, m, entries(t, list))
}

func agrees(t *testing.T, what string, m *book.Map[item, int], want []entry) {
	t.Helper()
	equal(t, what+": Len", m.Len(), len(want))
	equal(t, what+": All", text(m.All()), listed(want))
	equal(t, what+": Keys", keys(m.Keys()), listedKeys(want))
	k, v, ok := m.First()
	wantK, wantV, wantOk := first(want)
	equal(t, what+": First's key", k, wantK)
	equal(t, what+": First's value", v, wantV)
	equal(t, what+": whether First", ok, wantOk)
	for i, e := range want {
		v, ok := m.Get(other(e.key.key))
		equal(t, what+": Get", v, e.value)
		equal(t, what+": whether Get", ok, true)
		equal(t, what+": From", text(m.From(other(e.key.key))), listed(want[i:]))
	}
}

func id(n int) api.Sym {
	return api.Sym{Kind: api.Id, Text: "S", N: n}
}

// P2.1

func TestNewHasNoKeys(t *testing.T) {
	m := book.New[item, int]()
	holds(t, "a new map", m, "")
	v, ok := m.Get(item{})
	equal(t, "Get", v, 0)
	equal(t, "whether Get", ok, false)
	v, ok = m.Drop(item{})
	equal(t, "Drop", v, 0)
	equal(t, "whether Drop", ok, false)
	equal(t, "From", text(m.From(item{math.MinInt, ""})), "")
	m.Put(item{1, "a"}, 7)
	holds(t, "another new map", book.New[item, int](), "")
}

func TestPut(t *testing.T) {
	m := book.New[item, int]()
	for _, c := range []struct {
		k     item
		v     int
		fresh bool
		after string
	}{
		{item{5, "a"}, 10, true, "5a=10"},
		{item{5, "b"}, 11, false, "5a=11"},
		{item{9, "c"}, 12, true, "5a=11 9c=12"},
		{item{-3, "d"}, 13, true, "-3d=13 5a=11 9c=12"},
		{item{7, "e"}, 14, true, "-3d=13 5a=11 7e=14 9c=12"},
		{item{-3, "f"}, 15, false, "-3d=15 5a=11 7e=14 9c=12"},
		{item{9, "g"}, 0, false, "-3d=15 5a=11 7e=14 9c=0"},
		{item{0, ""}, 0, true, "-3d=15 0=0 5a=11 7e=14 9c=0"},
		{item{7, "e"}, 14, false, "-3d=15 0=0 5a=11 7e=14 9c=0"},
		{item{5, "h"}, 16, false, "-3d=15 0=0 5a=16 7e=14 9c=0"},
		{item{math.MaxInt, ""}, math.MinInt, true, "-3d=15 0=0 5a=16 7e=14 9c=0 9223372036854775807=-9223372036854775808"},
	} {
		equal(t, "Put", m.Put(c.k, c.v), c.fresh)
		holds(t, "after Put", m, c.after)
	}
}

func TestGet(t *testing.T) {
	m := filled(t, "10a=1 20b=0 30c=3")
	for _, c := range []struct {
		key, want int
		ok        bool
	}{
		{9, 0, false}, {10, 1, true}, {11, 0, false}, {20, 0, true}, {29, 0, false}, {30, 3, true}, {31, 0, false},
		{math.MinInt, 0, false}, {math.MaxInt, 0, false},
	} {
		v, ok := m.Get(other(c.key))
		equal(t, "Get", v, c.want)
		equal(t, "whether Get", ok, c.ok)
	}
	holds(t, "after Get", m, "10a=1 20b=0 30c=3")
}

func TestDrop(t *testing.T) {
	m := filled(t, "1a=11 2b=12 3c=0 4d=14 5e=15")
	for _, c := range []struct {
		key, want int
		ok        bool
		after     string
	}{
		{0, 0, false, "1a=11 2b=12 3c=0 4d=14 5e=15"},
		{6, 0, false, "1a=11 2b=12 3c=0 4d=14 5e=15"},
		{3, 0, true, "1a=11 2b=12 4d=14 5e=15"},
		{3, 0, false, "1a=11 2b=12 4d=14 5e=15"},
		{1, 11, true, "2b=12 4d=14 5e=15"},
		{5, 15, true, "2b=12 4d=14"},
		{2, 12, true, "4d=14"},
		{4, 14, true, ""},
		{4, 0, false, ""},
	} {
		v, ok := m.Drop(other(c.key))
		equal(t, "Drop", v, c.want)
		equal(t, "whether Drop", ok, c.ok)
		holds(t, "after Drop", m, c.after)
	}
	equal(t, "Put of a key that went", m.Put(item{3, "new"}, 8), true)
	holds(t, "after all went", m, "3new=8")
}

func TestFirst(t *testing.T) {
	m := book.New[api.Sym, int]()
	m.Put(id(2), 5)
	m.Put(id(1), 7)
	k, v, ok := m.First()
	equal(t, "the first key", k, id(1))
	equal(t, "the first value", v, 7)
	equal(t, "whether there is one", ok, true)
	m.Put(api.Sym{Kind: api.Int, N: -9}, 1)
	m.Put(id(1), 0)
	k, v, ok = m.First()
	equal(t, "the first key, with another value", k, id(1))
	equal(t, "its value", v, 0)
	equal(t, "whether it is there", ok, true)
	m.Drop(id(1))
	k, v, ok = m.First()
	equal(t, "the first key, after one went", k, id(2))
	equal(t, "its value", v, 5)
	equal(t, "whether it is there", ok, true)
	m.Drop(id(2))
	m.Drop(api.Sym{Kind: api.Int, N: -9})
	k, v, ok = m.First()
	equal(t, "no key", k, api.Sym{})
	equal(t, "no value", v, 0)
	equal(t, "whether there is one", ok, false)
}

func TestQuestionsChangeNothing(t *testing.T) {
	m := filled(t, "1a=1 3c=3 5e=5")
	m.Get(other(2))
	m.Get(other(3))
	m.First()
	m.Len()
	m.Clone()
	m.Drop(other(4))
	for range m.From(other(2)) {
	}
	holds(t, "after questions", m, "1a=1 3c=3 5e=5")
}

func TestCloneIsIndependent(t *testing.T) {
	for name, made := range map[string]func(m *book.Map[item, int]) *book.Map[item, int]{
		"a clone":         func(m *book.Map[item, int]) *book.Map[item, int] { return m.Clone() },
		"a clone's clone": func(m *book.Map[item, int]) *book.Map[item, int] { return m.Clone().Clone() },
	} {
		m := filled(t, "1a=1 2b=2 3c=3")
		c := made(m)
		holds(t, name, c, "1a=1 2b=2 3c=3")
		c.Put(other(1), 10)
		c.Drop(item{2, ""})
		c.Put(item{8, "c"}, 8)
		holds(t, name+", changed", c, "1a=10 3c=3 8c=8")
		holds(t, name+": the old one, after the new one changed", m, "1a=1 2b=2 3c=3")
		m.Put(other(3), 30)
		m.Drop(item{1, ""})
		m.Put(item{0, "m"}, 0)
		holds(t, name+", after the old one changed", c, "1a=10 3c=3 8c=8")
		holds(t, name+": the old one", m, "0m=0 2b=2 3c=30")
	}
	empty := book.New[item, int]()
	c := empty.Clone()
	c.Put(item{1, "a"}, 1)
	holds(t, "an empty map, after its clone changed", empty, "")
	holds(t, "the clone of an empty map", c, "1a=1")
}

func TestCloneDuringALoop(t *testing.T) {
	m := filled(t, "1a=1 2b=2 3c=3")
	clones := map[int]*book.Map[item, int]{}
	for k, v := range m.All() {
		clones[k.key] = m.Clone()
		m.Drop(k)
		m.Put(item{3, ""}, 10*v)
	}
	holds(t, "the first clone", clones[1], "1a=1 2b=2 3c=3")
	holds(t, "the second clone", clones[2], "2b=2 3c=10")
	holds(t, "the third clone", clones[3], "3c=20")
	holds(t, "the map", m, "3=30")
}

func TestValuesOfAnyType(t *testing.T) {
	lists := book.New[api.Sym, []int]()
	equal(t, "Put of a list", lists.Put(id(1), []int{4, 5}), true)
	equal(t, "Put of nil", lists.Put(id(2), nil), true)
	l, ok := lists.Get(id(1))
	equal(t, "whether the list is there", ok && slices.Equal(l, []int{4, 5}), true)
	l, ok = lists.Get(id(2))
	equal(t, "whether nil is there", ok && l == nil, true)
	l, ok = lists.Drop(id(2))
	equal(t, "whether nil was there", ok && l == nil, true)
	equal(t, "how many are left", lists.Len(), 1)

	within := book.New[api.Sym, *book.Map[item, int]]()
	within.Put(id(1), filled(t, "1a=1"))
	got, _ := within.Get(id(1))
	got.Put(item{2, "b"}, 2)
	again, _ := within.Clone().Get(id(1))
	holds(t, "a map within a map", again, "1a=1 2b=2")
	none, ok := within.Get(id(2))
	equal(t, "no map within a map", none, nil)
	equal(t, "whether there is one", ok, false)
}

func TestElementsAsKeys(t *testing.T) {
	a := api.Elem{Id: id(1), Attr: api.Sym{Kind: api.Str, Text: "x"}, Tag: 4}
	acc, later := a, a
	acc.Acc, acc.Tag = true, 3
	later.Goal, later.Tag = true, 9
	m := book.New[api.Elem, string]()
	m.Put(acc, "acceptable")
	m.Put(a, "first")
	equal(t, "Put of an element with another tag", m.Put(later, "second"), false)
	if got := slices.Collect(m.Keys()); !slices.Equal(got, []api.Elem{a, acc}) {
		t.Errorf("elements in order: %v", got)
	}
	v, _ := m.Get(a)
	equal(t, "the value", v, "second")
}

// P2.2

func TestAllAndKeys(t *testing.T) {
	m := filled(t, "4d=1 2b=2 1a=3 3c=4 2x=5")
	equal(t, "All", text(m.All()), "1a=3 2b=5 3c=4 4d=1")
	equal(t, "Keys", keys(m.Keys()), "1a 2b 3c 4d")
}

func TestFrom(t *testing.T) {
	m := filled(t, "10a=1 20b=2 30c=3 40d=4 50e=5")
	for _, c := range []struct {
		key  int
		want string
	}{
		{math.MinInt, "10a=1 20b=2 30c=3 40d=4 50e=5"}, {9, "10a=1 20b=2 30c=3 40d=4 50e=5"}, {10, "10a=1 20b=2 30c=3 40d=4 50e=5"},
		{11, "20b=2 30c=3 40d=4 50e=5"}, {30, "30c=3 40d=4 50e=5"}, {31, "40d=4 50e=5"},
		{49, "50e=5"}, {50, "50e=5"}, {51, ""}, {math.MaxInt, ""},
	} {
		equal(t, "From "+strconv.Itoa(c.key), text(m.From(other(c.key))), c.want)
	}
}

// valued gives each key of a sequence the value that it has in the map, so that all sequences can be held to the same.
func valued(m *book.Map[item, int], l iter.Seq[item]) iter.Seq2[item, int] {
	return func(yield func(item, int) bool) {
		for k := range l {
			v, _ := m.Get(k)
			if !yield(k, v) {
				return
			}
		}
	}
}

// sequences are the three of a map, as far as From begins with its first key.
func sequences(m *book.Map[item, int]) map[string]iter.Seq2[item, int] {
	return map[string]iter.Seq2[item, int]{"All": m.All(), "From": m.From(item{1, ""}), "Keys": valued(m, m.Keys())}
}

func TestLoopsAreLeftEarly(t *testing.T) {
	m := filled(t, "1a=1 2b=2 3c=3 4d=4 5e=5 6f=6 7g=7")
	for name, l := range sequences(m) {
		whole := text(l)
		for most := 1; most <= 7; most++ {
			var got []entry
			l(func(k item, v int) bool {
				got = append(got, entry{k, v})
				return len(got) != most
			})
			equal(t, name+", left", len(got), most)
			equal(t, name+", what came before", listed(got), whole[:5*most-1])
		}
		equal(t, name+", again after it was left", text(l), whole)
	}
}

func TestLoopsBeginAnew(t *testing.T) {
	m := filled(t, "1a=1 2b=2 3c=3 4d=4")
	l := sequences(m)
	for name := range l {
		for range l[name] {
			break
		}
	}
	m.Drop(item{2, ""})
	m.Put(item{9, "z"}, 9)
	m.Put(item{0, "y"}, 8)
	m.Put(other(3), 30)
	equal(t, "All", text(l["All"]), "0y=8 1a=1 3c=30 4d=4 9z=9")
	equal(t, "From", text(l["From"]), "1a=1 3c=30 4d=4 9z=9")
	equal(t, "Keys", text(l["Keys"]), "0y=8 1a=1 3c=30 4d=4 9z=9")
	m.Drop(item{4, ""})
	equal(t, "All, a third time", text(l["All"]), "0y=8 1a=1 3c=30 9z=9")
}

func TestSequencesOfAnEmptyMapThatIsFilledLater(t *testing.T) {
	m := book.New[item, int]()
	all, from, ks := m.All(), m.From(item{2, ""}), m.Keys()
	equal(t, "All, while it is empty", text(all), "")
	m.Put(item{1, "a"}, 1)
	m.Put(item{2, "b"}, 2)
	equal(t, "All", text(all), "1a=1 2b=2")
	equal(t, "From", text(from), "2b=2")
	equal(t, "Keys", keys(ks), "1a 2b")
}

func TestLoopsSeeWhatWasThereAtTheirBeginning(t *testing.T) {
	for _, name := range []string{"All", "From", "Keys"} {
		m := filled(t, "1a=1 3c=3 5e=5 7g=7")
		then := m.Clone()
		l := sequences(m)[name]
		if name == "Keys" {
			l = valued(then, m.Keys())
		}
		var got []entry
		for k, v := range l {
			got = append(got, entry{k, v})
			m.Put(other(3), 30)
			m.Put(item{1, "new"}, 10)
			m.Drop(item{5, ""})
			m.Drop(item{7, ""})
			m.Put(item{2, "new"}, 20)
			m.Put(item{7, "new"}, 70)
			m.Put(item{8, "new"}, 80)
		}
		equal(t, name+", changed meanwhile", listed(got), "1a=1 3c=3 5e=5 7g=7")
		holds(t, name+", afterwards", m, "1a=10 2new=20 3c=30 7new=70 8new=80")
	}
}

func TestLoopsThatTakeAllAway(t *testing.T) {
	m := filled(t, "1a=1 2b=2 3c=3 4d=4 5e=5")
	seen := 0
	for k, v := range m.All() {
		seen++
		gone, ok := m.Drop(k)
		equal(t, "Drop", gone, v)
		equal(t, "whether Drop", ok, true)
		equal(t, "Len meanwhile", m.Len(), 5-seen)
	}
	equal(t, "keys seen", seen, 5)
	holds(t, "afterwards", m, "")
}

func TestLoopsWithinLoops(t *testing.T) {
	m := filled(t, "1a=1 2b=2 3c=3")
	l := m.All()
	var got []string
	for k := range l {
		m.Drop(k)
		got = append(got, strconv.Itoa(k.key)+": "+text(l))
	}
	equal(t, "one sequence within itself", strings.Join(got, ", "), "1: 2b=2 3c=3, 2: 3c=3, 3: ")
}

// P2.3

func TestCount(t *testing.T) {
	for _, c := range []struct {
		list []item
		want string
	}{
		{nil, ""},
		{[]item{{4, "a"}}, "4a=1"},
		{[]item{{3, "a"}, {1, "b"}, {2, "c"}}, "1b=1 2c=1 3a=1"},
		{[]item{{2, "a"}, {1, "b"}, {2, "c"}, {1, "d"}, {2, "e"}}, "1b=2 2a=3"},
		{[]item{{7, ""}, {7, ""}, {7, ""}, {7, ""}}, "7=4"},
		{[]item{{0, ""}, {-1, "a"}, {0, "b"}}, "-1a=1 0=2"},
	} {
		m := book.Count(slices.Values(c.list))
		holds(t, "Count", m, c.want)
		v, ok := m.Get(item{99, ""})
		equal(t, "how often what is not there occurs", v, 0)
		equal(t, "whether it occurs", ok, false)
	}
}

func TestCountOfSequencesOfTheProgram(t *testing.T) {
	s := order.New(id(3), id(1), id(3), id(2))
	m := book.Count(s.All())
	equal(t, "keys of a set's count", m.Len(), 3)
	for x := range s.All() {
		n, _ := m.Get(x)
		equal(t, "each member of a set", n, 1)
	}
	of := filled(t, "1a=5 2b=6")
	n := book.Count(of.Keys())
	of.Put(item{3, "c"}, 7)
	of.Drop(item{1, ""})
	holds(t, "the count of a map's keys, after the map changed", n, "1a=1 2b=1")
	n.Put(item{8, "h"}, 8)
	holds(t, "the map, after the count changed", of, "2b=6 3c=7")
	holds(t, "a new count, after the old one changed", book.Count(of.Keys()), "2b=1 3c=1")
}

func TestCountGoesThroughTheWholeSequence(t *testing.T) {
	ended := 0
	l := func(yield func(item) bool) {
		for i := range 1000 {
			if !yield(item{i % 7, ""}) {
				return
			}
		}
		ended++
	}
	m := book.Count(l)
	holds(t, "Count", m, "0=143 1=143 2=143 3=143 4=143 5=143 6=142")
	equal(t, "whether it went to the end", ended > 0, true)
}

// All promises, over longer scripts.

// plain is a map in the plainest way that there is.
type plain []entry

func (p plain) place(key int) (int, bool) {
	for i, e := range p {
		if e.key.key >= key {
			return i, e.key.key == key
		}
	}
	return len(p), false
}

func (p plain) get(key int) (int, bool) {
	if i, there := p.place(key); there {
		return p[i].value, true
	}
	return 0, false
}

func (p *plain) put(k item, v int) bool {
	i, there := p.place(k.key)
	*p = slices.Clone(*p)
	if there {
		(*p)[i].value = v
	} else {
		*p = slices.Insert(*p, i, entry{k, v})
	}
	return !there
}

func (p *plain) drop(key int) (int, bool) {
	v, there := p.get(key)
	if there {
		i, _ := p.place(key)
		*p = slices.Delete(slices.Clone(*p), i, i+1)
	}
	return v, there
}

// steps returns a function that yields numbers below its argument: many and mixed, but each time the same.
func steps(seed uint64) func(below int) int {
	return func(below int) int {
		seed = seed*6364136223846793005 + 1442695040888963407
		return int(seed >> 33 % uint64(below))
	}
}

func TestLongScripts(t *testing.T) {
	for many := 1; many <= 240; many += 29 {
		next := steps(uint64(many))
		m, p := book.New[item, int](), plain(nil)
		old, before := m.Clone(), p
		for i := 0; i < 600 && !t.Failed(); i++ {
			k := item{next(many), "m" + strconv.Itoa(i)}
			// Long stretches of mostly putting and of mostly dropping, so that maps grow and go.
			if next(5) < 1+i/100%2*3 {
				got, ok := m.Drop(k)
				want, there := p.drop(k.key)
				equal(t, "Drop", got, want)
				equal(t, "whether Drop", ok, there)
			} else {
				equal(t, "Put", m.Put(k, i), p.put(k, i))
			}
			key := next(many)
			got, ok := m.Get(other(key))
			want, there := p.get(key)
			equal(t, "Get", got, want)
			equal(t, "whether Get", ok, there)
			place, _ := p.place(key)
			equal(t, "From", text(m.From(other(key))), listed(p[place:]))
			if i%60 == 0 {
				agrees(t, "the map", m, p)
				agrees(t, "an older clone", old, before)
				old, before = m.Clone(), p
			}
		}
	}
}

func TestManyKeysInOrder(t *testing.T) {
	const many = 20000
	m := book.New[item, int]()
	for i := range many {
		m.Put(item{i, ""}, i)
	}
	for i := range many {
		if m.Put(item{many - 1 - i, "again"}, i) {
			t.Fatalf("%d was not there", many-1-i)
		}
	}
	equal(t, "Len", m.Len(), many)
	next := 0
	for k, v := range m.All() {
		if k != (item{next, ""}) || v != many-1-next {
			t.Fatalf("key %v has %d, at place %d", k, v, next)
		}
		next++
	}
	for i := range many / 2 {
		if v, ok := m.Drop(item{i, ""}); !ok || v != many-1-i {
			t.Fatalf("Drop of %d: %d, %v", i, v, ok)
		}
	}
	equal(t, "Len after half of them went", m.Len(), many/2)
	k, _, _ := m.First()
	equal(t, "the first key", k.key, many/2)
}

// odd has a Compare method that is no order.
type odd struct{ n, way int }

func (a odd) Compare(b odd) int {
	switch a.way {
	case 0:
		return 1
	case 1:
		return -1
	case 2:
		return (a.n+b.n)%3 - 1
	}
	return a.n*5%7 - b.n*3%5
}

func TestCallsEndWithoutAnOrder(t *testing.T) {
	done := make(chan bool)
	go func() {
		defer close(done)
		for way := range 4 {
			callAll(way)
		}
	}()
	select {
	case <-done:
	case <-time.After(time.Minute):
		t.Fatal("a call does not end")
	}
}

// callAll calls all there is, whatever the results.
func callAll(way int) {
	m := book.New[odd, int]()
	for i := range 200 {
		m.Put(odd{i * 37 % 101, way}, i)
		m.Get(odd{i, way})
		m.Drop(odd{i * 53 % 97, way})
		m.First()
	}
	for k := range m.Clone().All() {
		m.Put(k, 1)
	}
	for k := range m.From(odd{5, way}) {
		m.Drop(k)
	}
	book.Count(m.Keys())
}
