package step

import (
	"slices"

	"auspice/api"
	"auspice/nodes"
)

// A machine outlives the call that makes it, and what that was handed may be changed behind it: so it keeps copies.

func copiedSchema(s api.Schema) api.Schema {
	s.Syms, s.Types = slices.Clone(s.Syms), slices.Clone(s.Types)
	for i := range s.Types {
		s.Types[i].Fields = slices.Clone(s.Types[i].Fields)
	}
	return s
}

func copiedAuto(a api.Auto) api.Auto {
	a.Keys, a.States = slices.Clone(a.Keys), slices.Clone(a.States)
	for i := range a.States {
		s := &a.States[i]
		s.Leaves, s.Guards, s.Bars = nodes.Kept(s.Leaves), nodes.Kept(s.Guards), copiedBars(s.Bars)
		s.Ends = slices.Clone(s.Ends)
		for j := range s.Ends {
			end := &s.Ends[j]
			end.Closes, end.Bars = nodes.Kept(end.Closes), copiedBars(end.Bars)
		}
	}
	return a
}

func copiedBars(l []api.Bar) []api.Bar {
	l = slices.Clone(l)
	for i := range l {
		l[i].Guards = nodes.Kept(l[i].Guards)
	}
	return l
}
