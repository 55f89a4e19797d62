package order

import "ponder/api"

// node is the root of a search tree; nil is the tree without values. No node
// is changed once it is made: a change makes the nodes on its way anew and
// shares the others. So whoever holds a root (a clone, a loop that has begun)
// goes on seeing the values that were there, without a copy of them.
type node[T api.Ordered[T]] struct {
	left, right *node[T]
	value       T
	size        int // of the whole tree: it finds places, and keeps the balance
}

// heavy and deep are the bounds of a weight-balanced tree: no side has more
// than heavy times the weight of the other one, and where it would have, it is
// turned over twice if its inner part has deep times the weight of its outer
// part. With 3 and 2, each put and each drop is made good by a single turn.
const (
	heavy = 3
	deep  = 2
)

func join[T api.Ordered[T]](left *node[T], value T, right *node[T]) *node[T] {
	return &node[T]{left: left, right: right, value: value, size: left.len() + 1 + right.len()}
}

// balanced makes up for one put or one drop: it may be given only sides that
// were in balance before it.
func balanced[T api.Ordered[T]](left *node[T], value T, right *node[T]) *node[T] {
	switch {
	case right.weight() > heavy*left.weight():
		return turnedLeft(left, value, right)
	case left.weight() > heavy*right.weight():
		return turnedRight(left, value, right)
	}
	return join(left, value, right)
}

// turnedLeft is for a right side that is too heavy; its inner part is there
// whenever it has to be taken apart, as it then has the greater weight.
func turnedLeft[T api.Ordered[T]](left *node[T], value T, right *node[T]) *node[T] {
	inner := right.left
	if inner.weight() < deep*right.right.weight() {
		return join(join(left, value, inner), right.value, right.right)
	}
	return join(join(left, value, inner.left), inner.value, join(inner.right, right.value, right.right))
}

// turnedRight is turnedLeft seen in a mirror.
func turnedRight[T api.Ordered[T]](left *node[T], value T, right *node[T]) *node[T] {
	inner := left.right
	if inner.weight() < deep*left.left.weight() {
		return join(left.left, left.value, join(inner, value, right))
	}
	return join(join(left.left, left.value, inner.left), inner.value, join(inner.right, value, right))
}

func (n *node[T]) len() int {
	if n == nil {
		return 0
	}
	return n.size
}

// weight is what balance is about: never 0, so that a tree without values counts, too.
func (n *node[T]) weight() int {
	return n.len() + 1
}

// with returns n itself where x is there already, so that nothing is made anew.
func (n *node[T]) with(x T) (*node[T], bool) {
	if n == nil {
		return join(nil, x, nil), true
	}
	c := x.Compare(n.value)
	if c < 0 {
		if left, added := n.left.with(x); added {
			return balanced(left, n.value, n.right), true
		}
	}
	if c > 0 {
		if right, added := n.right.with(x); added {
			return balanced(n.left, n.value, right), true
		}
	}
	return n, false
}

// without returns n itself where nothing is equal to x, so that nothing is made anew.
func (n *node[T]) without(x T) (*node[T], bool) {
	if n == nil {
		return nil, false
	}
	c := x.Compare(n.value)
	if c == 0 {
		return glued(n.left, n.right), true
	}
	if c < 0 {
		if left, gone := n.left.without(x); gone {
			return balanced(left, n.value, n.right), true
		}
	}
	if c > 0 {
		if right, gone := n.right.without(x); gone {
			return balanced(n.left, n.value, right), true
		}
	}
	return n, false
}

// glued closes the gap of a value that went. The heavier side gives the new
// root: that way the balance can only get better.
func glued[T api.Ordered[T]](left, right *node[T]) *node[T] {
	switch {
	case left == nil:
		return right
	case right == nil:
		return left
	case left.size > right.size:
		rest, last := left.cutLast()
		return balanced(rest, last, right)
	}
	first, rest := right.cutFirst()
	return balanced(left, first, rest)
}

// cutFirst may not be called on nil.
func (n *node[T]) cutFirst() (T, *node[T]) {
	if n.left == nil {
		return n.value, n.right
	}
	first, rest := n.left.cutFirst()
	return first, balanced(rest, n.value, n.right)
}

// cutLast may not be called on nil.
func (n *node[T]) cutLast() (*node[T], T) {
	if n.right == nil {
		return n.left, n.value
	}
	rest, last := n.right.cutLast()
	return balanced(n.left, n.value, rest), last
}

func (n *node[T]) find(x T) (T, bool) {
	for n != nil {
		c := x.Compare(n.value)
		if c == 0 {
			return n.value, true
		}
		if c < 0 {
			n = n.left
		} else {
			n = n.right
		}
	}
	return *new(T), false
}

func (n *node[T]) place(x T) (int, bool) {
	less := 0
	for n != nil {
		c := x.Compare(n.value)
		if c == 0 {
			return less + n.left.len(), true
		}
		if c < 0 {
			n = n.left
		} else {
			less += n.left.len() + 1
			n = n.right
		}
	}
	return less, false
}

func (n *node[T]) at(i int) (T, bool) {
	for n != nil {
		k := n.left.len()
		if i == k {
			return n.value, true
		}
		if i < k {
			n = n.left
		} else {
			i -= k + 1
			n = n.right
		}
	}
	return *new(T), false
}

// forward returns false if the loop was left, so that those above it stop, too.
func (n *node[T]) forward(yield func(T) bool) bool {
	return n == nil || n.left.forward(yield) && yield(n.value) && n.right.forward(yield)
}

func (n *node[T]) forwardFrom(x T, yield func(T) bool) bool {
	if n == nil {
		return true
	}
	if x.Compare(n.value) > 0 {
		return n.right.forwardFrom(x, yield)
	}
	return n.left.forwardFrom(x, yield) && yield(n.value) && n.right.forward(yield)
}

func (n *node[T]) backward(yield func(T) bool) bool {
	return n == nil || n.right.backward(yield) && yield(n.value) && n.left.backward(yield)
}
