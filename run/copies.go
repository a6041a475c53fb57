package run

import (
	"slices"

	"auspice/api"
)

// A runner outlives the call that makes it, and what that was handed may be changed behind it: so it keeps a copy.
func copied(t api.Table) api.Table {
	t.Keys, t.Kinds = slices.Clone(t.Keys), slices.Clone(t.Kinds)
	for typ := range t.Kinds {
		t.Kinds[typ] = slices.Clone(t.Kinds[typ])
	}
	t.States = slices.Clone(t.States)
	for i := range t.States {
		s := &t.States[i]
		s.Bars, s.Ends = slices.Clone(s.Bars), slices.Clone(s.Ends)
		for j := range s.Ends {
			s.Ends[j].Bars = slices.Clone(s.Ends[j].Bars)
		}
	}
	t.Codes = slices.Clone(t.Codes)
	for i := range t.Codes {
		c := &t.Codes[i]
		c.Inputs, c.Consts, c.List = slices.Clone(c.Inputs), slices.Clone(c.Consts), slices.Clone(c.List)
	}
	return t
}
