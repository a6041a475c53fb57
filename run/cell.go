package run

import (
	"slices"

	"auspice/api"
)

// arrival is an event that came, for as long as it is in a binding.
type arrival struct {
	api.Event
	place int
	key   api.Value // its stream's
}

// cell is a binding: an event behind the binding of those ahead. As long as it is alive the pool has one of that number.
type cell struct {
	*arrival       // the last one
	number   int   // among the pool's
	prev     *cell // nil where there is one event alone
	first    *arrival
	pos      int   // the last position
	head     *cell // the one that begins it
	count    int   // how many events it has
}

// extended is a binding with one event more, the first one of its position where it is fresh.
func (c *cell) extended(by *arrival, fresh bool) *cell {
	next := &cell{arrival: by, prev: c, first: by, count: 1}
	next.head = next
	if c == nil {
		return next
	}
	next.first, next.pos = c.first, c.pos+1
	if !fresh {
		next.pos, next.head, next.count = c.pos, c.head, c.count+1
	}
	return next
}

// upTo is the binding up to a position's last event; nil, where the position has none.
func (c *cell) upTo(pos int) *cell {
	for c != nil && c.pos > pos {
		c = c.head.prev
	}
	if c == nil || c.pos < pos {
		return nil
	}
	return c
}

// ofLast is a thing of each event of the last position.
func ofLast[T any](c *cell, thing func(a *arrival) T) []T {
	l := make([]T, c.count)
	for i := range slices.Backward(l) {
		l[i] = thing(c.arrival)
		c = c.prev
	}
	return l
}

// parts are the places of each position's events.
func (c *cell) parts() [][]int {
	parts := make([][]int, c.pos+1)
	for ; c != nil; c = c.head.prev {
		parts[c.pos] = ofLast(c, func(a *arrival) int { return a.place })
	}
	return parts
}
