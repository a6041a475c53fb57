package step

import (
	"auspice/api"
	"auspice/eval"
)

// question is what conditions are asked of: a binding, or none, and the event that came.
type question struct {
	*turn
	binding *cell
	look    eval.Look
	ready   bool // the look is put together when it is needed first: most often it isn't
}

func (t *turn) ask(binding *cell) *question {
	return &question{turn: t, binding: binding}
}

// ofEvent tells whether conditions hold that may look at the event.
func (q *question) ofEvent(l []api.Node) bool {
	return len(l) == 0 || eval.All(l, q.looked())
}

// ofBinding tells whether conditions hold that are asked of no event.
func (q *question) ofBinding(l []api.Node) bool {
	if len(l) == 0 {
		return true
	}
	const none = -1
	k := q.looked()
	k.Cur = none
	return eval.All(l, k)
}

func (q *question) looked() eval.Look {
	switch {
	case q.ready:
	case q.binding == nil:
		q.look = eval.Look{Events: []api.Event{q.now.event}}
	default:
		q.look = eval.Look{Events: q.binding.asks(q.now), Bound: q.bound()}
	}
	q.ready = true
	return q.look
}

// bound tells the events of the binding by where they stand in its row: no others are kept.
func (q *question) bound() [][]int {
	for len(q.numbers) < len(q.binding.places) {
		q.numbers = append(q.numbers, 1+len(q.numbers))
	}
	return q.binding.spread(q.numbers)
}
