package merge

import (
	"slices"

	"auspice/api"
	"auspice/nodes"
	"auspice/states"
)

// head is what a state has beside what its lists hold. States that are alike have one head, so that only those of one head are looked at further.
type head struct {
	parent, typ          int
	many                 bool
	window               int64
	bars, leaves, guards int // how many
}

func headOf(s api.State) head {
	return head{s.Parent, s.Type, s.Many, s.Window, len(s.Bars), len(s.Leaves), len(s.Guards)}
}

// sameLists tells whether all lists of two states are the same, their Ends aside.
func sameLists(x, y api.State) bool {
	return states.SameBars(x.Bars, y.Bars) && nodes.AllSame(x.Leaves, y.Leaves) && nodes.AllSame(x.Guards, y.Guards)
}

// least are states of which no two are alike.
type least struct {
	all    []api.State
	places map[head][]int // where those of a head stand
}

func newLeast() *least {
	return &least{places: map[head][]int{}}
}

// find tells the place of the state that is alike with s.
func (l *least) find(s api.State) (int, bool) {
	for _, at := range l.places[headOf(s)] {
		if sameLists(l.all[at], s) {
			return at, true
		}
	}
	return 0, false
}

// add puts a state, with which none is alike, behind all others.
func (l *least) add(s api.State) int {
	h, at := headOf(s), len(l.all)
	l.all = append(l.all, s)
	l.places[h] = append(l.places[h], at)
	return at
}

// addEnds makes a new list: the room behind the old one may be the caller's.
func (l *least) addEnds(at int, ends []api.End) {
	s := &l.all[at]
	s.Ends = slices.Concat(s.Ends, ends)
}
