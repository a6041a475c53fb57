package run

import (
	"slices"

	"auspice/api"
	"auspice/streams"
	"auspice/value"
)

// turn is the work of one event.
type turn struct {
	*Runner
	now      *arrival
	streamed bool          // the event is in a stream
	cells    map[int]*cell // the bindings whose last event it is, by their numbers
	born     []run
	over     []wait // whose windows are over
}

func newTurn(r *Runner, e api.Event) *turn {
	e.Attrs = slices.Clone(e.Attrs)
	key, ok := streams.Key(r.Keys, e)
	return &turn{Runner: r, now: &arrival{e, r.pushed, key}, streamed: ok, cells: map[int]*cell{}}
}

// change is what the event does to all that is alive. Matches are told behind it: they may be far more than what is alive, and are none where that is too much.
func (t *turn) change() {
	t.expire()
	if t.streamed {
		t.goOn()
		t.begin()
	}
	t.await()
	t.settle()
}

// expire ends all whose window is over, of whatever stream.
func (t *turn) expire() {
	t.runs = keep(t.Runner, t.runs, func(x *run) bool { return !t.late(x.held) })
	t.waits = keep(t.Runner, t.waits, func(w *wait) bool {
		late := t.late(w.held)
		if late {
			t.over = append(t.over, *w)
		}
		return !late
	})
}

func (t *turn) late(h held) bool {
	return h.binding.first.Time+t.States[h.state].Window < t.now.Time
}

// goOn shows the event to all of its stream.
func (t *turn) goOn() {
	t.runs = keep(t.Runner, t.runs, func(x *run) bool { return t.apart(x.held) || t.take(x) })
	t.waits = keep(t.Runner, t.waits, func(w *wait) bool { return t.apart(w.held) || !t.stops(t.endOf(w).Bars, w.binding) })
}

// apart tells whether something is of another stream than the event.
func (t *turn) apart(h held) bool {
	return !value.Same(h.binding.first.key, t.now.key)
}

// take is what the event makes of a run. It tells whether the run stays.
func (t *turn) take(x *run) bool {
	s, takers := &t.States[x.state], family(0)
	more := s.Many && t.isOf(s.Type, s.Guard, x.binding)
	if more {
		t.bear(x.state, x.binding, false, x.closed)
	}
	for child := range t.children(x.state) {
		if x.open(child) && t.takes(child, x.binding) {
			t.bear(child, x.binding, true, 0)
			takers.add(child)
		}
	}
	if t.Strategy == api.Strict || t.Strategy == api.Next && more {
		return false
	}
	if t.Strategy == api.Next {
		x.closed |= takers
	}
	for child := range t.children(x.state) {
		if t.stops(t.States[child].Bars, x.binding) {
			x.barred.add(child)
		}
	}
	return true
}

// takes tells whether a child of a binding's state would take the event.
func (t *turn) takes(child int, ahead *cell) bool {
	s := &t.States[child]
	return t.now.Type == s.Type && t.holds(s.Leave, ahead) && t.holds(s.Guard, ahead, t.now.Event)
}

// isOf tells whether the event is of a type, and what is asked of it holds.
func (t *turn) isOf(typ, guard int, ahead *cell) bool {
	return t.now.Type == typ && t.holds(guard, ahead, t.now.Event)
}

func (t *turn) stops(l []api.Stop, ahead *cell) bool {
	return slices.ContainsFunc(l, func(stop api.Stop) bool { return t.isOf(stop.Type, stop.Guard, ahead) })
}

// begin makes a run of each first state that the event is of.
func (t *turn) begin() {
	for i := range t.children(none) {
		if t.isOf(t.States[i].Type, t.States[i].Guard, nil) {
			t.bear(i, nil, true, 0)
		}
	}
}

// bear makes a run of a binding with the event behind it.
func (t *turn) bear(state int, ahead *cell, fresh bool, closed family) {
	t.born = append(t.born, run{held{state, t.cell(ahead, fresh)}, closed, 0})
}

// cell is the binding with the event behind it, held once more.
func (t *turn) cell(ahead *cell, fresh bool) *cell {
	prev := none
	if ahead != nil {
		prev = ahead.number
	}
	number, _ := t.rows.Add(prev, t.now.place, fresh)
	c, ok := t.cells[number]
	if !ok {
		c = ahead.extended(t.now, fresh)
		c.number = number
		t.cells[number] = c
	}
	return c
}

// await makes waits of what the event made whole, where Bars may come. It doesn't go on where they are too many: there may be very many Ends.
func (t *turn) await() {
	for _, x := range t.born {
		for i, end := range t.States[x.state].Ends {
			if len(t.waits) > t.Runs {
				return
			}
			if len(end.Bars) > 0 && t.holds(end.Close, x.binding) {
				t.rows.Hold(x.cell())
				t.waits = append(t.waits, wait{x.held, i})
			}
		}
	}
}

// settle leaves alive what can go on. All that was born is still to be told.
func (t *turn) settle() {
	t.runs = keep(t.Runner, t.runs, t.canGoOn)
	t.runs = append(t.runs, keep(t.Runner, slices.Clone(t.born), t.canGoOn)...)
}

// tell tells the waits whose windows are over, and what the event made whole, where no Bars may come.
func (t *turn) tell() []api.Match {
	whole := t.over
	for _, x := range t.born {
		for i, end := range t.States[x.state].Ends {
			if len(end.Bars) == 0 && t.holds(end.Close, x.binding) {
				whole = append(whole, wait{x.held, i})
			}
		}
	}
	return inOrder(t.matches(whole))
}
