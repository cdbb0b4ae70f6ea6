// Package queue gives things out in an order that its user chooses.
package queue

import "slices"

// Queue is a heap. Its order is a field, so that one type serves whatever goes ahead of whatever.
type Queue[T any] struct {
	ahead func(a, b T) bool
	heap  []T
}

// New is an empty queue that gives a out before b if ahead(a, b).
func New[T any](ahead func(a, b T) bool) *Queue[T] {
	return &Queue[T]{ahead: ahead}
}

// Len is how many things wait.
func (q *Queue[T]) Len() int { return len(q.heap) }

// First is the one that goes ahead of all others, which stays; false if there is none.
func (q *Queue[T]) First() (T, bool) {
	if len(q.heap) == 0 {
		var none T
		return none, false
	}
	return q.heap[0], true
}

// Put adds one.
func (q *Queue[T]) Put(x T) {
	q.heap = append(q.heap, x)
	q.rise(len(q.heap) - 1)
}

// Take gives out the one that goes ahead of all others; false if there is none.
func (q *Queue[T]) Take() (T, bool) {
	first, some := q.First()
	if !some {
		return first, false
	}
	last := len(q.heap) - 1
	q.heap[0] = q.heap[last]
	q.heap = q.heap[:last]
	q.sink(0)
	return first, true
}

// All is a new list of all that wait, in the order in which they would be given out; they stay.
func (q *Queue[T]) All() []T {
	rest := &Queue[T]{ahead: q.ahead, heap: slices.Clone(q.heap)}
	all := make([]T, 0, q.Len())
	for rest.Len() > 0 {
		first, _ := rest.Take()
		all = append(all, first)
	}
	return all
}

func (q *Queue[T]) rise(at int) {
	for at > 0 {
		parent := (at - 1) / 2
		if !q.ahead(q.heap[at], q.heap[parent]) {
			return
		}
		q.swap(at, parent)
		at = parent
	}
}

func (q *Queue[T]) sink(at int) {
	for {
		child := q.firstChild(at)
		if child < 0 || !q.ahead(q.heap[child], q.heap[at]) {
			return
		}
		q.swap(at, child)
		at = child
	}
}

// firstChild is the place of the child that goes ahead of the other, -1 if there is none.
func (q *Queue[T]) firstChild(at int) int {
	left := 2*at + 1
	right := left + 1
	if left >= len(q.heap) {
		return -1
	}
	if right < len(q.heap) && q.ahead(q.heap[right], q.heap[left]) {
		return right
	}
	return left
}

func (q *Queue[T]) swap(i, j int) {
	q.heap[i], q.heap[j] = q.heap[j], q.heap[i]
}
