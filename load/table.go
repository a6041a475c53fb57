package load

import (
	"slices"

	"auspice/api"
	"auspice/vm"
)

func within(n, least, most int) bool {
	return n >= least && n <= most
}

func goodBounds(t api.Table) bool {
	return within(t.Strategy, api.Strict, api.Any) && within(t.Syms, 0, api.MaxSyms) &&
		within(t.Runs, 1, api.MaxLive) && within(t.Cells, 1, api.MaxLive)
}

func goodKinds(kinds [][]int) bool {
	return len(kinds) <= api.MaxTypes && !slices.ContainsFunc(kinds, func(l []int) bool {
		return len(l) > api.MaxAttrs || slices.ContainsFunc(l, isNoKind)
	})
}

func isNoKind(kind int) bool {
	return !within(kind, api.Int, api.Real)
}

func goodKeys(t api.Table) bool {
	if len(t.Keys) == 0 {
		return true
	}
	if len(t.Keys) != len(t.Kinds) {
		return false
	}
	for typ, key := range t.Keys {
		if !within(key, none, len(t.Kinds[typ])-1) {
			return false
		}
	}
	return true
}

func goodStates(t api.Table) bool {
	if len(t.States) > api.MaxStates {
		return false
	}
	for i := range t.States {
		if !goodState(t, i) {
			return false
		}
	}
	return true
}

// goodState relies on the states ahead of that one: its path is made of them.
func goodState(t api.Table, i int) bool {
	s := t.States[i]
	switch {
	case !within(s.Parent, none, i-1) || len(Path(t, i)) > api.MaxItems:
		return false
	case s.Parent == none && (len(s.Bars) > 0 || s.Leave != none):
		return false
	case !hasType(t, s.Type) || s.Window < 0 || s.Window > api.MaxTime:
		return false
	}
	return goodStops(t, s.Bars) && !slices.ContainsFunc(s.Ends, func(end api.Tail) bool {
		return !within(end.Branch, 0, api.MaxBranches-1) || !goodStops(t, end.Bars)
	})
}

func goodStops(t api.Table, stops []api.Stop) bool {
	return !slices.ContainsFunc(stops, func(stop api.Stop) bool { return !hasType(t, stop.Type) })
}

func hasType(t api.Table, typ int) bool {
	return within(typ, 0, len(t.Kinds)-1)
}

func goodCodes(codes []api.Code) bool {
	return len(codes) <= api.MaxCode && !slices.ContainsFunc(codes, func(c api.Code) bool {
		return c.Regs > api.MaxRegs || !vm.Good(c)
	})
}
