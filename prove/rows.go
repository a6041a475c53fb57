package prove

import (
	"slices"

	"auspice/api"
)

// meant is what the codes of a table mean; its methods hold an automaton's parts against the table's.
type meant []api.Node

// meanings are those of all codes; false, if one has none.
func meanings(codes []api.Code) (meant, bool) {
	all := meant{}
	for _, c := range codes {
		n, ok := meaning(c)
		if !ok {
			return nil, false
		}
		all = append(all, n)
	}
	return all, true
}

func (m meant) ofState(s api.State, r api.Row) bool {
	return s.Parent == r.Parent && s.Type == r.Type && s.Many == r.Many && s.Window == r.Window &&
		slices.EqualFunc(s.Bars, r.Bars, m.ofBar) && m.of(s.Leaves, r.Leave) && m.of(s.Guards, r.Guard) &&
		slices.EqualFunc(s.Ends, r.Ends, m.ofEnd)
}

func (m meant) ofBar(bar api.Bar, stop api.Stop) bool {
	return bar.Type == stop.Type && m.of(bar.Guards, stop.Guard)
}

func (m meant) ofEnd(end api.End, tail api.Tail) bool {
	return end.Branch == tail.Branch && m.of(end.Closes, tail.Close) && slices.EqualFunc(end.Bars, tail.Bars, m.ofBar)
}

// of tells whether the code of that number, which is a code's or none's, means the conditions.
func (m meant) of(l []api.Node, number int) bool {
	const none = -1
	n, asked := chain(l)
	if !asked || number == none {
		return !asked && number == none
	}
	return Alike(n, m[number])
}
