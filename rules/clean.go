package rules

import (
	"slices"

	"auspice/api"
)

func (w *work) clean() {
	w.fold()
	for l := range w.lists() {
		*l = slices.DeleteFunc(*l, always)
	}
	w.plan.Branches = slices.DeleteFunc(w.plan.Branches, hopeless)
	for i := range w.plan.Branches {
		parts := &w.plan.Branches[i].Parts
		*parts = withoutIdleNots(*parts)
	}
}

// always tells whether a condition is true whatever it is asked of.
func always(n api.Node) bool {
	return n.Op == api.Const && n.Value == api.Value{Kind: api.Bool, Bits: 1}
}

// hopeless tells whether no match can be of a branch: a positive part's conditions never hold.
func hopeless(b api.Branch) bool {
	return slices.ContainsFunc(positions(b.Parts), func(place int) bool { return never(b.Parts[place]) })
}

// never tells whether a part has a condition that never holds, those aside that always do being left out already.
func never(part api.Part) bool {
	isConst := func(n api.Node) bool { return n.Op == api.Const }
	return slices.ContainsFunc(part.Guards, isConst) || slices.ContainsFunc(part.Closes, isConst)
}

// withoutIdleNots leaves out Nots between two positions that forbid nothing. One behind the last position says when a match is told, also where it forbids nothing.
func withoutIdleNots(parts []api.Part) []api.Part {
	at, kept := positions(parts), []api.Part{}
	for i, part := range parts {
		between := len(at) > 0 && at[0] < i && i < at[len(at)-1]
		if part.Form == api.Not && between && never(part) {
			continue
		}
		kept = append(kept, part)
	}
	return kept
}
