package step

import "auspice/api"

// held is what keeps a binding alive.
type held struct {
	state   int
	binding *cell
}

// run is what may go on. Marks are of children; one without a mark is open.
type run struct {
	held
	marks map[int]mark
}

// mark is why a child may not take an event: it is closed for good, or barred until the run's state takes one more.
type mark struct {
	closed, barred bool
}

// wait is what is a match, if nothing comes that bars the End.
type wait struct {
	held
	end int // which of the state's Ends
}

func (r *run) open(child int) bool {
	return r.marks[child] == mark{}
}

func (r *run) mark(child int, add mark) {
	if r.marks == nil {
		r.marks = map[int]mark{}
	}
	old := r.marks[child]
	r.marks[child] = mark{old.closed || add.closed, old.barred || add.barred}
}

// closed are the marks of what is closed, without bars.
func (r *run) closed() map[int]mark {
	var l map[int]mark
	for child, is := range r.marks {
		if !is.closed {
			continue
		}
		if l == nil {
			l = map[int]mark{}
		}
		l[child] = mark{closed: true}
	}
	return l
}

func (m *Machine) endOf(w wait) api.End {
	return m.auto.States[w.state].Ends[w.end]
}

// matchOf is what a wait is, told now.
func (m *Machine) matchOf(w wait) api.Match {
	return api.Match{Step: m.pushed, Branch: m.endOf(w).Branch, Parts: w.binding.parts()}
}

// canGoOn tells whether more may come of a run.
func (m *Machine) canGoOn(r *run) bool {
	s := m.auto.States[r.state]
	if s.Many && len(s.Ends) > 0 {
		return true
	}
	for _, child := range m.children[r.state] {
		if is := r.marks[child]; !is.closed && (s.Many || !is.barred) {
			return true
		}
	}
	return false
}

// keep leaves in a list what is to stay, and nothing in the room behind that.
func keep[T any](l []T, stays func(x *T) bool) []T {
	kept := l[:0]
	for i := range l {
		if stays(&l[i]) {
			kept = append(kept, l[i])
		}
	}
	clear(l[len(kept):])
	return kept
}
