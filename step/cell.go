package step

import (
	"slices"

	"auspice/api"
)

// arrival is an event that came, for as long as it is in a binding.
type arrival struct {
	event api.Event
	place int
	key   api.Value // its stream's
}

// cell is a binding: an event behind the binding of those ahead. Of each binding there is one cell, so that to count these is to count bindings.
type cell struct {
	prev   *cell // nil where there is one event alone
	first  *arrival
	last   *arrival
	starts []int       // how many events stand ahead of each position
	places []int       // of all events
	row    []api.Event // room for the event that is asked, and all events; nil until conditions look at the binding
}

// extended is a binding with one event more, the first one of its position where it is fresh.
func (c *cell) extended(by *arrival, fresh bool) *cell {
	if c == nil {
		return &cell{first: by, last: by, starts: []int{0}, places: []int{by.place}}
	}
	next := &cell{prev: c, first: c.first, last: by, starts: c.starts}
	if fresh {
		next.starts = append(slices.Clip(c.starts), len(c.places))
	}
	// The room behind a list goes to the one that is extended first, so that no long list is copied event by event; the others copy it.
	next.places, c.places = append(c.places, by.place), slices.Clip(c.places)
	if c.row != nil {
		next.row, c.row = append(c.row, by.event), slices.Clip(c.row)
	}
	return next
}

// asks is the row, with the event that is asked.
func (c *cell) asks(asked *arrival) []api.Event {
	if c.row == nil {
		c.row = make([]api.Event, 1+len(c.places))
		for x := c; x != nil; x = x.prev {
			c.row[len(x.places)] = x.last.event
		}
	}
	c.row[0] = asked.event
	return c.row
}

// spread is a list of a thing for each event as lists for each position.
func (c *cell) spread(l []int) [][]int {
	parts, end := make([][]int, len(c.starts)), len(c.places)
	for pos, from := range slices.Backward(c.starts) {
		parts[pos] = l[from:end]
		end = from
	}
	return parts
}

// parts are the places of each position's events.
func (c *cell) parts() [][]int {
	parts := c.spread(c.places)
	for pos := range parts {
		parts[pos] = slices.Clone(parts[pos])
	}
	return parts
}
