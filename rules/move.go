package rules

import (
	"auspice/api"
	"auspice/fold"
	"auspice/nodes"
	"auspice/tree"
)

// move leaves a plan alone under Next: there a condition that is asked sooner keeps an event from being taken, and so from standing in the way of others.
func (w *work) move() {
	if w.plan.Strategy == api.Next {
		return
	}
	for _, b := range w.plan.Branches {
		r := row{b.Parts, positions(b.Parts)}
		for pos, place := range r.at {
			part := &b.Parts[place]
			part.Guards = r.moved(part.Guards, pos, asksNot)
			part.Closes = r.moved(part.Closes, pos, anyNode)
		}
	}
}

func asksNot(n api.Node) bool { return !fold.Asks(n) }

func anyNode(api.Node) bool { return true }

// row is a branch's parts, and where among them each position stands.
type row struct {
	parts []api.Part
	at    []int
}

// moved puts those of a position's conditions that may go, and look at positions ahead alone, with the last one of these. It answers the others.
func (r row) moved(l []api.Node, pos int, mayGo func(n api.Node) bool) []api.Node {
	stay := []api.Node{}
	for _, n := range l {
		if last := fold.Last(n); last >= 0 && last < pos && mayGo(n) {
			r.put(n, last)
		} else {
			stay = append(stay, n)
		}
	}
	return stay
}

func (r row) put(n api.Node, pos int) {
	part := &r.parts[r.at[pos]]
	if part.Form == api.Many {
		part.Closes = append(part.Closes, n)
		return
	}
	for m := range tree.Upward(&n, nodes.Args) {
		if m.Op == api.Of && m.Pos == pos {
			m.Op, m.Pos = api.Cur, 0
		}
	}
	part.Guards = append(part.Guards, n)
}
