package auto

import (
	"slices"

	"auspice/api"
	"auspice/nodes"
	"auspice/states"
)

func Same(a, b api.Auto) bool {
	return a.Strategy == b.Strategy && slices.Equal(a.Keys, b.Keys) && slices.EqualFunc(a.States, b.States, sameState)
}

func sameState(x, y api.State) bool {
	return x.Parent == y.Parent && x.Type == y.Type && x.Many == y.Many && x.Window == y.Window &&
		states.SameBars(x.Bars, y.Bars) && nodes.AllSame(x.Leaves, y.Leaves) && nodes.AllSame(x.Guards, y.Guards) &&
		slices.EqualFunc(x.Ends, y.Ends, sameEnd)
}

func sameEnd(x, y api.End) bool {
	return x.Branch == y.Branch && nodes.AllSame(x.Closes, y.Closes) && states.SameBars(x.Bars, y.Bars)
}
