// Package row keeps things in the order of their times, so that the oldest ones can be lost.
package row

import "slices"

// Row is a row of things, the oldest one first. What the time of a thing is stands in a field, so that one type serves whatever grows old.
type Row[T any] struct {
	time func(x T) int
	list []T
}

// New is an empty row of things that have their times by this function.
func New[T any](time func(x T) int) *Row[T] {
	return &Row[T]{time: time}
}

// Len is how many things there are.
func (r *Row[T]) Len() int { return len(r.list) }

// At is the thing at a place; the oldest one is at 0.
func (r *Row[T]) At(place int) T { return r.list[place] }

// Put adds one that is at least as new as all others.
func (r *Row[T]) Put(x T) { r.list = append(r.list, x) }

// Past is how many things have times up to this one; they are the oldest ones.
func (r *Row[T]) Past(time int) int {
	n := 0
	for n < len(r.list) && r.time(r.list[n]) <= time {
		n++
	}
	return n
}

// Lose throws the n oldest ones away.
func (r *Row[T]) Lose(n int) { r.list = slices.Delete(r.list, 0, n) }

// Drop throws the n newest ones away.
func (r *Row[T]) Drop(n int) {
	r.list = slices.Delete(r.list, len(r.list)-n, len(r.list))
}

// Join puts x in the place of two neighbours, the older one of which is at this place.
func (r *Row[T]) Join(place int, x T) {
	r.list = slices.Replace(r.list, place, place+2, x)
}
