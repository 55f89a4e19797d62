// Package order: ordered sets of values that have a Compare method (doc/01-order.md).
package order

import (
	"iter"

	"ponder/api"
)

// Set is no more than a root: nodes are never changed, so that whoever reads a
// root once has the members of that moment, whatever becomes of the set.
type Set[T api.Ordered[T]] struct {
	root *node[T]
}

func New[T api.Ordered[T]](l ...T) *Set[T] {
	s := &Set[T]{}
	for _, x := range l {
		s.Put(x)
	}
	return s
}

func (s *Set[T]) Put(x T) bool {
	root, added := s.root.with(x)
	s.root = root
	return added
}

func (s *Set[T]) Drop(x T) bool {
	root, gone := s.root.without(x)
	s.root = root
	return gone
}

func (s *Set[T]) Get(x T) (T, bool) {
	return s.root.find(x)
}

func (s *Set[T]) Place(x T) (int, bool) {
	return s.root.place(x)
}

func (s *Set[T]) At(i int) (T, bool) {
	return s.root.at(i)
}

func (s *Set[T]) Len() int {
	return s.root.len()
}

// All, like From and Back, reads the root when a loop begins, not when it is
// called: a sequence that is ranged over again yields what is there by then.
func (s *Set[T]) All() iter.Seq[T] {
	return func(yield func(T) bool) {
		s.root.forward(yield)
	}
}

func (s *Set[T]) From(x T) iter.Seq[T] {
	return func(yield func(T) bool) {
		s.root.forwardFrom(x, yield)
	}
}

func (s *Set[T]) Back() iter.Seq[T] {
	return func(yield func(T) bool) {
		s.root.backward(yield)
	}
}

// Clone can share the root, as a change of either set makes a root of its own.
func (s *Set[T]) Clone() *Set[T] {
	return &Set[T]{root: s.root}
}

// Union begins with a, because Put lets the member stay that is there: of two
// equal ones that of a.
func Union[T api.Ordered[T]](a, b *Set[T]) *Set[T] {
	u := a.Clone()
	for x := range b.All() {
		u.Put(x)
	}
	return u
}

// Meet goes through a, not through the smaller set: the members are those of a.
func Meet[T api.Ordered[T]](a, b *Set[T]) *Set[T] {
	m := New[T]()
	for x := range a.All() {
		if _, ok := b.Get(x); ok {
			m.Put(x)
		}
	}
	return m
}

func Less[T api.Ordered[T]](a, b *Set[T]) *Set[T] {
	l := a.Clone()
	for x := range b.All() {
		l.Drop(x)
	}
	return l
}

// Same needs one direction only: with equal lengths none of b can be left over.
func Same[T api.Ordered[T]](a, b *Set[T]) bool {
	if a.Len() != b.Len() {
		return false
	}
	for x := range a.All() {
		if _, ok := b.Get(x); !ok {
			return false
		}
	}
	return true
}
