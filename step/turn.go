package step

import (
	"slices"

	"auspice/api"
	"auspice/streams"
	"auspice/value"
)

// turn is the work of one event.
type turn struct {
	*Machine
	now      *arrival
	streamed bool           // the event is in a stream
	cells    map[seat]*cell // the bindings whose last event it is
	born     []run
	told     []api.Match
}

// seat is where in a binding the event stands.
type seat struct {
	prev  *cell
	fresh bool
}

func newTurn(m *Machine, e api.Event) *turn {
	e.Attrs = slices.Clone(e.Attrs)
	key, ok := streams.Key(m.auto.Keys, e)
	return &turn{Machine: m, now: &arrival{e, m.pushed, key}, streamed: ok, cells: map[seat]*cell{}}
}

// expire ends all whose window is over, of whatever stream.
func (t *turn) expire() {
	t.runs = keep(t.runs, func(r *run) bool { return !t.over(r.held) })
	t.waits = keep(t.waits, func(w *wait) bool {
		if !t.over(w.held) {
			return true
		}
		t.told = append(t.told, t.matchOf(*w))
		return false
	})
}

func (t *turn) over(h held) bool {
	return h.binding.first.event.Time+t.auto.States[h.state].Window < t.now.event.Time
}

// goOn shows the event to all of its stream.
func (t *turn) goOn() {
	t.runs = keep(t.runs, func(r *run) bool { return t.apart(r.held) || t.take(r) })
	t.waits = keep(t.waits, func(w *wait) bool { return t.apart(w.held) || !t.bars(t.endOf(*w).Bars, t.ask(w.binding)) })
}

// apart tells whether something is of another stream than the event.
func (t *turn) apart(h held) bool {
	return !value.Same(h.binding.first.key, t.now.key)
}

// take is what the event makes of a run. It tells whether the run stays.
func (t *turn) take(r *run) bool {
	s, q := &t.auto.States[r.state], t.ask(r.binding)
	more := s.Many && t.isOf(s.Type, s.Guards, q)
	if more {
		t.bear(r.state, r.binding, false, r.closed())
	}
	takers := []int{}
	for _, child := range t.children[r.state] {
		if r.open(child) && t.takes(child, q) {
			takers = append(takers, child)
			t.bear(child, r.binding, true, nil)
		}
	}
	switch {
	case t.auto.Strategy == api.Strict || t.auto.Strategy == api.Next && more:
		return false
	case t.auto.Strategy == api.Next:
		for _, child := range takers {
			r.mark(child, mark{closed: true})
		}
	}
	for _, child := range t.children[r.state] {
		if t.bars(t.auto.States[child].Bars, q) {
			r.mark(child, mark{barred: true})
		}
	}
	return true
}

// takes tells whether a child would take the event.
func (t *turn) takes(child int, q *question) bool {
	s := &t.auto.States[child]
	return t.now.event.Type == s.Type && q.ofBinding(s.Leaves) && q.ofEvent(s.Guards)
}

func (t *turn) isOf(typ int, guards []api.Node, q *question) bool {
	return t.now.event.Type == typ && q.ofEvent(guards)
}

func (t *turn) bars(l []api.Bar, q *question) bool {
	return slices.ContainsFunc(l, func(bar api.Bar) bool { return t.isOf(bar.Type, bar.Guards, q) })
}

// begin makes a run of each first state that the event is of.
func (t *turn) begin() {
	q := t.ask(nil)
	for _, i := range t.children[atBeginning] {
		if s := &t.auto.States[i]; t.isOf(s.Type, s.Guards, q) {
			t.bear(i, nil, true, nil)
		}
	}
}

// bear makes a run of a binding with the event behind it.
func (t *turn) bear(state int, prev *cell, fresh bool, marks map[int]mark) {
	t.born = append(t.born, run{held{state, t.cell(prev, fresh)}, marks})
}

func (t *turn) cell(prev *cell, fresh bool) *cell {
	at := seat{prev, fresh}
	if c, ok := t.cells[at]; ok {
		return c
	}
	c := prev.extended(t.now, fresh)
	t.cells[at] = c
	return c
}

// tellWhole makes matches and waits of what the event made whole.
func (t *turn) tellWhole() {
	for _, r := range t.born {
		q := t.ask(r.binding)
		for i, end := range t.auto.States[r.state].Ends {
			w := wait{r.held, i}
			switch {
			case !q.ofBinding(end.Closes):
			case len(end.Bars) == 0:
				t.told = append(t.told, t.matchOf(w))
			default:
				t.waits = append(t.waits, w)
			}
		}
	}
}

// settle leaves alive what can go on.
func (t *turn) settle() {
	t.runs = append(keep(t.runs, t.canGoOn), keep(t.born, t.canGoOn)...)
}
