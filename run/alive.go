package run

import (
	"iter"

	"auspice/api"
)

// held is what keeps a binding alive, and holds it in the pool.
type held struct {
	state   int
	binding *cell
}

func (h held) cell() int {
	return h.binding.number
}

// run is what may go on.
type run struct {
	held
	closed, barred family // children that may not take an event: for good, or until the run's state takes one more
}

func (x *run) open(child int) bool {
	return !x.closed.has(child) && !x.barred.has(child)
}

// wait is what is a match, if nothing comes that bars the End.
type wait struct {
	held
	end int // which of the state's Ends
}

// family is states, a bit for each that there may be.
type family uint32

func (f family) has(state int) bool {
	return f>>state&1 == 1
}

func (f *family) add(state int) {
	*f |= 1 << state
}

// children are the states behind one, or the first ones, behind none.
func (r *Runner) children(of int) iter.Seq[int] {
	return func(yield func(child int) bool) {
		for i := of + 1; i < len(r.States); i++ {
			if r.States[i].Parent == of && !yield(i) {
				return
			}
		}
	}
}

// canGoOn tells whether more may come of a run.
func (r *Runner) canGoOn(x *run) bool {
	s := &r.States[x.state]
	if s.Many && len(s.Ends) > 0 {
		return true
	}
	for child := range r.children(x.state) {
		// what bars it is nothing any more, when a Many takes one more
		if x.open(child) || s.Many && !x.closed.has(child) {
			return true
		}
	}
	return false
}

func (r *Runner) endOf(w *wait) *api.Tail {
	return &r.States[w.state].Ends[w.end]
}

// matches are what waits are, told now.
func (r *Runner) matches(l []wait) []api.Match {
	told := []api.Match{}
	for i := range l {
		told = append(told, api.Match{Step: r.pushed, Branch: r.endOf(&l[i]).Branch, Parts: l[i].binding.parts()})
	}
	return told
}

// keep leaves in a list what is to stay, and nothing in the room behind that; what goes holds its cell no more.
func keep[T interface{ cell() int }](r *Runner, l []T, stays func(x *T) bool) []T {
	kept := l[:0]
	for i := range l {
		if stays(&l[i]) {
			kept = append(kept, l[i])
		} else {
			r.rows.Drop(l[i].cell())
		}
	}
	clear(l[len(kept):])
	return kept
}
