package step

import (
	"slices"

	"auspice/api"
	"auspice/nodes"
	"auspice/states"
)

// A machine outlives the call that makes it, and what that was handed may be changed behind it: so it keeps copies.

func copiedSchema(s api.Schema) api.Schema {
	s.Syms, s.Types = slices.Clone(s.Syms), slices.Clone(s.Types)
	for i := range s.Types {
		s.Types[i].Fields = slices.Clone(s.Types[i].Fields)
	}
	return s
}

func copiedAuto(a api.Auto) api.Auto {
	a.Keys, a.States = slices.Clone(a.Keys), states.Copies(a.States, nodes.Kept)
	return a
}
