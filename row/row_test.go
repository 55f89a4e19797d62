package row_test

import (
	"iter"
	"math"
	"runtime"
	"slices"
	"strconv"
	"strings"
	"testing"
	"weak"

	"ponder/api"
	"ponder/book"
	"ponder/order"
	"ponder/row"
)

const most = 65536

func equal[V comparable](t *testing.T, what string, got, want V) {
	t.Helper()
	if got != want {
		t.Errorf("%s: got %v, want %v", what, got, want)
	}
}

// made is a queue for room values, with l in it.
func made[T any](t *testing.T, room int, l ...T) *row.Queue[T] {
	t.Helper()
	q, err := row.New[T](room)
	if err != api.OK || q == nil {
		t.Fatalf("no queue for %d values: %d", room, err)
	}
	if !q.Push(l...) {
		t.Fatalf("no room for %v", l)
	}
	return q
}

func text(l iter.Seq[int]) string {
	var words []string
	for x := range l {
		words = append(words, strconv.Itoa(x))
	}
	return strings.Join(words, " ")
}

func listed(l []int) string {
	return text(slices.Values(l))
}

// firsts are the first n values of a loop that is left behind them.
func firsts(l iter.Seq[int], n int) []int {
	var got []int
	l(func(x int) bool {
		got = append(got, x)
		return len(got) != n
	})
	return got
}

// holds asks the queue for its values in every way that leaves them there.
func holds(t *testing.T, what string, q *row.Queue[int], want ...int) {
	t.Helper()
	equal(t, what+": Len", q.Len(), len(want))
	equal(t, what+": All", text(q.All()), listed(want))
	for i, x := range want {
		got, ok := q.At(i)
		equal(t, what+": At", got, x)
		equal(t, what+": whether At", ok, true)
	}
	for _, i := range []int{math.MinInt, -1, len(want), len(want) + 1, math.MaxInt} {
		got, ok := q.At(i)
		equal(t, what+": At where there is none", got, 0)
		equal(t, what+": whether At there", ok, false)
	}
}

func popped(t *testing.T, what string, q *row.Queue[int], want int) {
	t.Helper()
	x, ok := q.Pop()
	equal(t, what+": Pop", x, want)
	equal(t, what+": whether Pop", ok, true)
}

func emptied(t *testing.T, what string, q *row.Queue[int]) {
	t.Helper()
	x, ok := q.Pop()
	equal(t, what+": Pop of an empty queue", x, 0)
	equal(t, what+": whether Pop of an empty queue", ok, false)
}

// P3.1

func TestNew(t *testing.T) {
	for _, room := range []int{1, 2, 3, 1000, most - 1, most} {
		q, err := row.New[int](room)
		equal(t, "New", err, api.OK)
		if q == nil {
			t.Fatalf("no queue for %d values", room)
		}
		holds(t, "a new queue", q)
		emptied(t, "a new queue", q)
	}
}

func TestNewOfARoomThatMayNotBe(t *testing.T) {
	for _, room := range []int{0, -1, -most, math.MinInt, most + 1, 1 << 20, 1 << 32, 1<<32 + 1, math.MaxInt} {
		q, err := row.New[int](room)
		equal(t, "New of "+strconv.Itoa(room), err, api.ErrArg)
		equal(t, "the queue", q, nil)
	}
}

func TestPush(t *testing.T) {
	q := made[int](t, 5)
	for _, c := range []struct {
		l     []int
		ok    bool
		after []int
	}{
		{[]int{1, 2, 3, 4, 5, 6}, false, nil},
		{nil, true, nil},
		{[]int{7}, true, []int{7}},
		{[]int{3, 7}, true, []int{7, 3, 7}},
		{[]int{8, 9, 10}, false, []int{7, 3, 7}},
		{[]int{}, true, []int{7, 3, 7}},
		{[]int{0}, true, []int{7, 3, 7, 0}},
		{[]int{5, 6}, false, []int{7, 3, 7, 0}},
		{[]int{-4}, true, []int{7, 3, 7, 0, -4}},
		{[]int{1}, false, []int{7, 3, 7, 0, -4}},
		{nil, true, []int{7, 3, 7, 0, -4}},
	} {
		equal(t, "Push of "+listed(c.l), q.Push(c.l...), c.ok)
		holds(t, "after Push of "+listed(c.l), q, c.after...)
	}
	popped(t, "a full queue", q, 7)
	equal(t, "Push of two where one has room", q.Push(1, 2), false)
	holds(t, "after it", q, 3, 7, 0, -4)
	equal(t, "Push of one", q.Push(1), true)
	holds(t, "after it", q, 3, 7, 0, -4, 1)
}

func TestPushOfTheExample(t *testing.T) {
	q := made[int](t, 2)
	equal(t, "Push of three values", q.Push(1, 2, 3), false)
	holds(t, "after it", q)
	equal(t, "Push of two values", q.Push(1, 2), true)
	holds(t, "after it", q, 1, 2)
}

func TestPushIntoTheGreatestRoom(t *testing.T) {
	list := make([]int, most+1)
	for i := range list {
		list[i] = i
	}
	q := made[int](t, most)
	equal(t, "Push of one too many", q.Push(list...), false)
	holds(t, "after it", q)
	equal(t, "Push of all but one", q.Push(list[:most-1]...), true)
	equal(t, "Push of two", q.Push(1, 2), false)
	equal(t, "Push of one", q.Push(most-1), true)
	equal(t, "Push of one more", q.Push(1), false)
	holds(t, "the full queue", q, list[:most]...)
}

func TestPushLeavesItsListAlone(t *testing.T) {
	whole := []int{1, 2, 3, 4, 5}
	list := whole[:2]
	q := made(t, 9, list...)
	q.Push(8)
	equal(t, "the list and what lies behind it", listed(whole), "1 2 3 4 5")
	list[0] = 7
	holds(t, "after the list was written to", q, 1, 2, 8)
	popped(t, "after the list was written to", q, 1)
	popped(t, "after the list was written to", q, 2)
	equal(t, "the list, after its values were popped", listed(whole), "7 2 3 4 5")
}

func TestPop(t *testing.T) {
	q := made(t, 3, 5, 0, 5)
	popped(t, "three values", q, 5)
	holds(t, "after the first went", q, 0, 5)
	popped(t, "two values", q, 0)
	q.Push(4, 6)
	holds(t, "after two came", q, 5, 4, 6)
	for _, x := range []int{5, 4, 6} {
		popped(t, "the last three", q, x)
	}
	emptied(t, "all went", q)
	emptied(t, "all went, again", q)
	holds(t, "all went", q)
	equal(t, "Push after all went", q.Push(1, 2, 3), true)
	equal(t, "Push of one too many after all went", q.Push(4), false)
	holds(t, "after all went and others came", q, 1, 2, 3)
}

// poppedOne returns a queue with one value, and a weak pointer to another one that it had.
func poppedOne(t *testing.T) (*row.Queue[*[64]int], weak.Pointer[[64]int]) {
	x := new([64]int)
	q := made(t, 2, x, new([64]int))
	q.Pop()
	return q, weak.Make(x)
}

func TestPoppedValuesAreNotKept(t *testing.T) {
	q, old := poppedOne(t)
	for i := 0; i < 20 && old.Value() != nil; i++ {
		runtime.GC()
	}
	equal(t, "a value that was popped", old.Value(), nil)
	equal(t, "Len", q.Len(), 1)
}

func TestQuestionsChangeNothing(t *testing.T) {
	q := made(t, 3, 1, 2, 3)
	q.At(1)
	q.At(3)
	q.Len()
	q.Clone()
	q.Push(4)
	q.Drain()
	for range q.All() {
	}
	row.Collect(q.All(), 2)
	holds(t, "after questions", q, 1, 2, 3)
}

func TestCloneIsIndependent(t *testing.T) {
	for name, made := range map[string]func() (q, c *row.Queue[int]){
		"a clone":         func() (q, c *row.Queue[int]) { q = made(t, 4, 1, 2, 3); return q, q.Clone() },
		"a clone's clone": func() (q, c *row.Queue[int]) { q = made(t, 4, 1, 2, 3); return q, q.Clone().Clone() },
		"a clone of what was popped from": func() (q, c *row.Queue[int]) {
			q = made(t, 4, 9, 1, 2)
			q.Pop()
			q.Push(3)
			return q, q.Clone()
		},
	} {
		q, c := made()
		holds(t, name, c, 1, 2, 3)
		equal(t, name+": Push", c.Push(4), true)
		equal(t, name+": Push beyond its room", c.Push(5), false)
		equal(t, "the old one: Push", q.Push(8), true)
		holds(t, name+", changed", c, 1, 2, 3, 4)
		holds(t, name+": the old one", q, 1, 2, 3, 8)
		popped(t, name, c, 1)
		holds(t, name+": the old one, after a Pop", q, 1, 2, 3, 8)
		popped(t, name+": the old one", q, 1)
		popped(t, name+": the old one", q, 2)
		holds(t, name+", after the old one changed", c, 2, 3, 4)
		holds(t, name+": the old one, afterwards", q, 3, 8)
	}
	empty := made[int](t, 1)
	c := empty.Clone()
	equal(t, "Push to the clone of an empty queue", c.Push(1), true)
	equal(t, "Push of one too many to it", c.Push(2), false)
	holds(t, "an empty queue, after its clone changed", empty)
	holds(t, "the clone of an empty queue", c, 1)
}

func TestValuesOfAnyType(t *testing.T) {
	calls := made(t, 2, func() int { return 4 }, func() int { return 5 })
	f, ok := calls.Pop()
	equal(t, "whether a function is there", ok && f() == 4, true)
	calls.Pop()
	f, ok = calls.Pop()
	equal(t, "whether no function is there", !ok && f == nil, true)
	f, ok = calls.At(0)
	equal(t, "whether no function is at 0", !ok && f == nil, true)

	lists := made(t, 3, []int{1, 2}, nil, []int{3})
	equal(t, "lists", len(slices.Collect(lists.All())), 3)
	l, ok := lists.At(1)
	equal(t, "whether nil is there", ok && l == nil, true)

	within := made(t, 1, made(t, 2, 6))
	q, _ := within.At(0)
	q.Push(7)
	again, _ := within.Pop()
	holds(t, "a queue within a queue", again, 6, 7)
	none, ok := within.Pop()
	equal(t, "no queue within a queue", none, nil)
	equal(t, "whether there is one", ok, false)

	symbols := made(t, 4, api.Sym{Kind: api.Str, Text: "b"}, api.Sym{Kind: api.Id, Text: "S", N: 1}, api.Sym{})
	x, ok := symbols.At(1)
	equal(t, "a symbol", x, api.Sym{Kind: api.Id, Text: "S", N: 1})
	equal(t, "whether it is there", ok, true)
	nothings := made(t, 2, struct{}{}, struct{}{})
	equal(t, "Push of one too many that have no size", nothings.Push(struct{}{}), false)
	equal(t, "how many that have no size", nothings.Len(), 2)
}

// P3.2

func TestAll(t *testing.T) {
	q := made(t, 9, 4, 2, 4, 1)
	equal(t, "All", text(q.All()), "4 2 4 1")
	equal(t, "All, again", text(q.All()), "4 2 4 1")
	equal(t, "All of an empty queue", text(made[int](t, 9).All()), "")
}

func TestAllIsLeftEarly(t *testing.T) {
	q := made(t, 9, 1, 2, 3, 4, 5)
	l := q.All()
	for n := 1; n <= 5; n++ {
		equal(t, "All, left", listed(firsts(l, n)), "1 2 3 4 5"[:2*n-1])
		holds(t, "after All was left", q, 1, 2, 3, 4, 5)
	}
	equal(t, "All, after it was left", text(l), "1 2 3 4 5")
}

func TestAllBeginsAnew(t *testing.T) {
	q := made[int](t, 9)
	l := q.All()
	equal(t, "All, while the queue is empty", text(l), "")
	q.Push(1, 2, 3)
	equal(t, "All, after it was filled", text(l), "1 2 3")
	firsts(l, 1)
	q.Pop()
	q.Push(4)
	equal(t, "All, after it was changed", text(l), "2 3 4")
	for q.Len() > 0 {
		q.Pop()
	}
	equal(t, "All, after all went", text(l), "")
}

func TestAllSeesWhatWasThereAtItsBeginning(t *testing.T) {
	for name, change := range map[string]func(q *row.Queue[int]){
		"Push":         func(q *row.Queue[int]) { q.Push(9) },
		"Pop":          func(q *row.Queue[int]) { q.Pop() },
		"Pop and Push": func(q *row.Queue[int]) { q.Pop(); q.Push(9) },
		"Drain":        func(q *row.Queue[int]) { firsts(q.Drain(), 2) },
		"Drain, Push":  func(q *row.Queue[int]) { text(q.Drain()); q.Push(5, 6, 7, 8) },
	} {
		q := made(t, 4, 9, 1, 2, 3)
		q.Pop()
		var got []int
		for x := range q.All() {
			got = append(got, x)
			change(q)
		}
		equal(t, name+" meanwhile", listed(got), "1 2 3")
	}
}

func TestAllWithinAll(t *testing.T) {
	q := made(t, 9, 1, 2, 3)
	l := q.All()
	var got []string
	for x := range l {
		q.Pop()
		got = append(got, strconv.Itoa(x)+": "+text(l))
	}
	equal(t, "one sequence within itself", strings.Join(got, ", "), "1: 2 3, 2: 3, 3: ")
}

func TestDrain(t *testing.T) {
	q := made(t, 4, 4, 0, 4, 1)
	equal(t, "Drain", text(q.Drain()), "4 0 4 1")
	holds(t, "after Drain", q)
	equal(t, "Drain of an empty queue", text(q.Drain()), "")
	equal(t, "Push after Drain", q.Push(1, 2, 3, 4), true)
	holds(t, "after Drain and Push", q, 1, 2, 3, 4)
}

func TestDrainTakesNothingBeforeItsLoop(t *testing.T) {
	q := made(t, 9, 1, 2)
	l := q.Drain()
	holds(t, "before the loop", q, 1, 2)
	q.Pop()
	q.Push(3)
	equal(t, "Drain", text(l), "2 3")
	equal(t, "Drain, again", text(l), "")
	q.Push(4, 5)
	equal(t, "Drain, after others came", text(l), "4 5")
}

func TestDrainRemovesAValueBeforeItYieldsIt(t *testing.T) {
	q := made(t, 3, 1, 2, 3)
	var got []string
	for x := range q.Drain() {
		got = append(got, strconv.Itoa(x)+": "+text(q.All()))
	}
	equal(t, "what is left meanwhile", strings.Join(got, ", "), "1: 2 3, 2: 3, 3: ")
}

func TestDrainIsLeftEarly(t *testing.T) {
	for n := 1; n <= 5; n++ {
		q := made(t, 9, 1, 2, 3, 4, 5)
		l := q.Drain()
		equal(t, "Drain, left", listed(firsts(l, n)), "1 2 3 4 5"[:2*n-1])
		holds(t, "after Drain was left", q, []int{1, 2, 3, 4, 5}[n:]...)
		q.Push(6)
		equal(t, "Drain, after it was left", text(l), "1 2 3 4 5 6"[2*n:])
		holds(t, "after the second Drain", q)
	}
}

func TestDrainIncludesWhatIsPushedMeanwhile(t *testing.T) {
	q := made(t, 2, 1, 10)
	var got []int
	for x := range q.Drain() {
		got = append(got, x)
		if x%10 != 4 {
			equal(t, "Push meanwhile", q.Push(x+1), true)
		}
	}
	equal(t, "Drain", listed(got), "1 10 2 11 3 12 4 13 14")
	holds(t, "after Drain", q)

	q = made(t, 9, 7)
	for x := range q.Drain() {
		q.Push(x+1, x+2)
		break
	}
	holds(t, "after Drain was left", q, 8, 9)
}

func TestDrainWithPop(t *testing.T) {
	q := made(t, 9, 1, 2, 3, 4, 5)
	var got []int
	for x := range q.Drain() {
		got = append(got, x)
		q.Pop()
	}
	equal(t, "Drain", listed(got), "1 3 5")
}

func TestDrainWithinDrain(t *testing.T) {
	q := made(t, 9, 1, 2, 3, 4, 5)
	var got []int
	for x := range q.Drain() {
		got = append(got, x)
		got = append(got, firsts(q.Drain(), 2)...)
		q.Push(-x)
		if len(got) > 6 {
			break
		}
	}
	equal(t, "Drain", listed(got), "1 2 3 4 5 -1 -4")
	holds(t, "after Drain was left", q, 4)
}

func TestCloneDuringALoop(t *testing.T) {
	q := made(t, 3, 1, 2, 3)
	var clones []*row.Queue[int]
	for x := range q.Drain() {
		clones = append(clones, q.Clone())
		if x < 4 {
			q.Push(10 * x)
		}
	}
	equal(t, "how many clones", len(clones), 6)
	holds(t, "the first clone", clones[0], 2, 3)
	holds(t, "the second clone", clones[1], 3, 10)
	holds(t, "the third clone", clones[2], 10, 20)
	holds(t, "the fourth clone", clones[3], 20, 30)
	holds(t, "the last clone", clones[5])
	holds(t, "the queue", q)
}

// P3.3

func TestCollect(t *testing.T) {
	for _, c := range []struct {
		list []int
		most int
		want string
	}{
		{nil, 3, ""},
		{nil, 0, ""},
		{[]int{5}, 1, "5"},
		{[]int{5, 6, 7}, 1, "5"},
		{[]int{5, 0, 5}, 2, "5 0"},
		{[]int{5, 6, 7}, 3, "5 6 7"},
		{[]int{5, 6, 7}, 4, "5 6 7"},
		{[]int{5, 6, 7}, math.MaxInt, "5 6 7"},
		{[]int{5, 6, 7}, 0, ""},
		{[]int{5, 6, 7}, -1, ""},
		{[]int{5, 6, 7}, math.MinInt, ""},
	} {
		got := row.Collect(slices.Values(c.list), c.most)
		equal(t, "Collect of at most "+strconv.Itoa(c.most), listed(got), c.want)
	}
}

func TestCollectDoesNotBeginASequence(t *testing.T) {
	for _, n := range []int{0, -1, math.MinInt} {
		got := row.Collect(func(func(int) bool) { t.Errorf("it was begun for %d values", n) }, n)
		equal(t, "how many values", len(got), 0)
	}
}

func TestCollectLeavesASequence(t *testing.T) {
	for n := 1; n <= 5; n++ {
		var asked []bool
		got := row.Collect(func(yield func(int) bool) {
			for i := range 3 {
				asked = append(asked, yield(i))
				if !asked[len(asked)-1] {
					return
				}
			}
		}, n)
		equal(t, "values", len(got), min(n, 3))
		equal(t, "values that were yielded", len(asked), min(n, 3))
		equal(t, "whether it was left", slices.Contains(asked, false), n <= 3)
	}
}

func TestCollectOfASequenceWithoutEnd(t *testing.T) {
	next := 0
	l := func(yield func(int) bool) {
		for yield(next) {
			next++
		}
	}
	equal(t, "the first values", listed(row.Collect(l, 4)), "0 1 2 3")
	equal(t, "the last value that was made", next, 3)
}

func TestCollectOfASequenceThatGoesOn(t *testing.T) {
	l := func(yield func(int) bool) {
		for i := range 9 {
			yield(i)
		}
	}
	equal(t, "the first values", listed(row.Collect(l, 4)), "0 1 2 3")
}

func TestCollectOfQueues(t *testing.T) {
	q := made(t, 9, 1, 2, 3, 4, 5)
	equal(t, "values of All", listed(row.Collect(q.All(), 2)), "1 2")
	holds(t, "after it", q, 1, 2, 3, 4, 5)
	equal(t, "no values of Drain", listed(row.Collect(q.Drain(), 0)), "")
	holds(t, "after it", q, 1, 2, 3, 4, 5)
	equal(t, "values of Drain", listed(row.Collect(q.Drain(), 2)), "1 2")
	holds(t, "after it", q, 3, 4, 5)
	equal(t, "all that are left", listed(row.Collect(q.Drain(), 3)), "3 4 5")
	holds(t, "after it", q)
	equal(t, "values of an empty queue", listed(row.Collect(q.Drain(), 3)), "")
}

func TestCollectOfSetsAndMaps(t *testing.T) {
	a, b := api.Sym{Kind: api.Id, Text: "A", N: 1}, api.Sym{Kind: api.Id, Text: "B", N: 1}
	s := order.New(b, api.Sym{Kind: api.Int, N: 3}, a)
	if got := row.Collect(s.All(), 2); !slices.Equal(got, []api.Sym{a, b}) {
		t.Errorf("members of a set: %v", got)
	}
	if got := row.Collect(book.Count(s.All()).Keys(), 1); !slices.Equal(got, []api.Sym{a}) {
		t.Errorf("keys of a map: %v", got)
	}
}

func TestCollectReturnsNewMemory(t *testing.T) {
	q := made(t, 9, 1, 2, 3, 4, 5)
	one, two := row.Collect(q.All(), 3), row.Collect(q.All(), 3)
	one[0] = 7
	one = append(one, 8, 9)
	equal(t, "the list", listed(one), "7 2 3 8 9")
	equal(t, "another list", listed(two[:cap(two)][:3]), "1 2 3")
	holds(t, "the queue", q, 1, 2, 3, 4, 5)
	q.Pop()
	q.Push(6, 7)
	equal(t, "another list, after the queue changed", listed(two), "1 2 3")
}

// All promises, over longer scripts.

// steps returns a function that yields numbers below its argument: many and mixed, but each time the same.
func steps(seed uint64) func(below int) int {
	return func(below int) int {
		seed = seed*6364136223846793005 + 1442695040888963407
		return int(seed >> 33 % uint64(below))
	}
}

// changed does the same to a queue and to a plain list, and returns that list.
func changed(t *testing.T, next func(below int) int, room int, q *row.Queue[int], want []int) []int {
	t.Helper()
	l := make([]int, next(room/2+2))
	for i := range l {
		l[i] = next(1000)
	}
	switch next(5) {
	case 0:
		n := 1 + next(room)
		equal(t, "Drain", listed(firsts(q.Drain(), n)), listed(want[:min(n, len(want))]))
		return want[min(n, len(want)):]
	case 1, 2:
		x, ok := q.Pop()
		equal(t, "whether Pop", ok, len(want) > 0)
		if !ok {
			return want
		}
		equal(t, "Pop", x, want[0])
		return want[1:]
	}
	fits := len(want)+len(l) <= room
	equal(t, "Push", q.Push(l...), fits)
	if fits {
		return slices.Concat(want, l)
	}
	return want
}

func TestLongScripts(t *testing.T) {
	for room := 1; room <= 60; room += 7 {
		next := steps(uint64(room))
		q := made[int](t, room)
		var want []int
		old, before := q.Clone(), want
		all := q.All()
		for i := 0; i < 800 && !t.Failed(); i++ {
			want = changed(t, next, room, q, want)
			holds(t, "the queue", q, want...)
			equal(t, "a sequence of the beginning", text(all), listed(want))
			n := next(room + 2)
			equal(t, "Collect", listed(row.Collect(all, n)), listed(want[:min(n, len(want))]))
			if i%20 == 0 {
				holds(t, "an older clone", old, before...)
				old, before = q.Clone(), want
			}
		}
	}
}

func TestManyValuesGoThrough(t *testing.T) {
	q := made[int](t, most)
	for i := range most {
		q.Push(i)
	}
	for i := range 20 * most {
		x, ok := q.Pop()
		if !ok || x != i || !q.Push(most+i) {
			t.Fatalf("value %d: %d, %v", i, x, ok)
		}
	}
	equal(t, "Len", q.Len(), most)
	equal(t, "Push of one too many", q.Push(0), false)
	next := 20 * most
	for x := range q.Drain() {
		if x != next {
			t.Fatalf("value %d: %d", next, x)
		}
		next++
	}
	equal(t, "the value behind the last one", next, 21*most)
}
