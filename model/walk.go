package model

import (
	"iter"
	"slices"

	"auspice/api"
	"auspice/eval"
	"auspice/streams"
)

// position is a positive part of a branch, with the Nots between it and the next one, of the last one those behind it.
type position struct {
	api.Part
	nots []api.Part
}

// take is an event and the position that takes it: a binding's last one, or the next one.
type take struct {
	place, pos int
}

// walk goes from beginning to beginning of a branch: each of them is a shorter one, or nothing, and one event more, so that of the rules only what that event adds is to be asked.
type walk struct {
	plan      api.Plan
	branch    api.Branch
	positions []position
	script    []api.Event
	streams   map[api.Value][]int
	bound     [][]int // the beginning that is stood at; at first none
}

func newWalk(p api.Plan, b api.Branch, script []api.Event, all map[api.Value][]int) *walk {
	w := &walk{plan: p, branch: b, script: script, streams: all}
	for _, part := range b.Parts {
		last := len(w.positions) - 1
		switch {
		case part.Form != api.Not:
			w.positions = append(w.positions, position{Part: part})
		case last >= 0:
			w.positions[last].nots = append(w.positions[last].nots, part)
		}
	}
	return w
}

func (w *walk) push(t take) {
	if t.pos == len(w.bound) {
		w.bound = append(w.bound, nil)
	}
	w.bound[t.pos] = append(w.bound[t.pos], t.place)
}

func (w *walk) pop() {
	pos := len(w.bound) - 1
	w.bound[pos] = w.bound[pos][:len(w.bound[pos])-1]
	if len(w.bound[pos]) == 0 {
		w.bound = w.bound[:pos]
	}
}

// beginnings yields each beginning once. What is yielded holds until the next one is.
func (w *walk) beginnings() iter.Seq[[][]int] {
	return func(yield func([][]int) bool) {
		w.grow(yield)
	}
}

func (w *walk) grow(yield func([][]int) bool) bool {
	for t := range w.takes() {
		w.push(t)
		if !yield(w.bound) || !w.grow(yield) {
			return false
		}
		w.pop()
	}
	return true
}

// takes yields all that make another beginning of this one, their places rising.
func (w *walk) takes() iter.Seq[take] {
	if len(w.bound) == 0 {
		return w.firstTakes
	}
	return w.furtherTakes
}

func (w *walk) firstTakes(yield func(take) bool) {
	if len(w.positions) == 0 {
		return
	}
	for place, e := range w.script {
		if _, ok := streams.Key(w.plan.Keys, e); ok && w.fits(0, place) && !yield(take{place, 0}) {
			return
		}
	}
}

// furtherTakes keeps to the binding's stream and window, and ends behind the first event that mustn't stand between two: under Strict that is any, under Next one that can be taken, be it as one more or as the next position's first.
func (w *walk) furtherTakes(yield func(take) bool) {
	pos := len(w.bound) - 1
	more := w.positions[pos].Form == api.Many
	next := pos+1 < len(w.positions) && w.closes()
	for _, place := range w.rest() {
		if !more && !next {
			return
		}
		asMore, asNext := more && w.fits(pos, place), next && w.fits(pos+1, place)
		if asMore && !yield(take{place, pos}) || asNext && !yield(take{place, pos + 1}) {
			return
		}
		if w.plan.Strategy == api.Strict || w.plan.Strategy == api.Next && (asMore || asNext) {
			return
		}
		next = next && !w.forbids(place)
	}
}

// may tells whether that makes another beginning of this one.
func (w *walk) may(wanted take) bool {
	for t := range w.takes() {
		if t == wanted {
			return true
		}
	}
	return false
}

// fits tells whether an event is of a position's Type, and its Guards hold.
func (w *walk) fits(pos, place int) bool {
	return w.isOf(w.positions[pos].Part, place)
}

// forbids tells whether an event is one that mustn't stand behind the last position.
func (w *walk) forbids(place int) bool {
	return slices.ContainsFunc(w.positions[len(w.bound)-1].nots, func(not api.Part) bool {
		return w.isOf(not, place)
	})
}

func (w *walk) isOf(part api.Part, place int) bool {
	return w.script[place].Type == part.Type && eval.All(part.Guards, eval.Look{Events: w.script, Bound: w.bound, Cur: place})
}

// closes tells whether the last position may be left.
func (w *walk) closes() bool {
	const none = -1
	return eval.All(w.positions[len(w.bound)-1].Closes, eval.Look{Events: w.script, Bound: w.bound, Cur: none})
}

// rest are the places of the stream's events behind the last one, as far as the window goes.
func (w *walk) rest() []int {
	key, _ := streams.Key(w.plan.Keys, w.script[w.bound[0][0]])
	stream := w.streams[key]
	from, _ := slices.BinarySearch(stream, w.last()+1)
	to, _ := slices.BinarySearch(stream, w.over())
	return stream[from:max(from, to)]
}

func (w *walk) last() int {
	places := w.bound[len(w.bound)-1]
	return places[len(places)-1]
}

func (w *walk) over() int {
	return Over(w.script, w.bound[0][0], w.branch.Window)
}

// matches tells whether the beginning is a match.
func (w *walk) matches() bool {
	return len(w.bound) == len(w.positions) && w.closes() && (!w.waits() || !slices.ContainsFunc(w.rest(), w.forbids))
}

// waits tells whether Nots stand behind the last position: then a match isn't sure ahead of its window's end.
func (w *walk) waits() bool {
	return len(w.positions[len(w.bound)-1].nots) > 0
}

// step is that of a match.
func (w *walk) step() int {
	if w.waits() {
		return w.over()
	}
	return w.last()
}
