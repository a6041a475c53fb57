package auto

import (
	"slices"

	"auspice/api"
	"auspice/nodes"
)

func Same(a, b api.Auto) bool {
	return a.Strategy == b.Strategy && slices.Equal(a.Keys, b.Keys) && slices.EqualFunc(a.States, b.States, sameState)
}

func sameState(x, y api.State) bool {
	return x.Parent == y.Parent && x.Type == y.Type && x.Many == y.Many && x.Window == y.Window &&
		slices.EqualFunc(x.Bars, y.Bars, sameBar) && sameNodes(x.Leaves, y.Leaves) && sameNodes(x.Guards, y.Guards) &&
		slices.EqualFunc(x.Ends, y.Ends, sameEnd)
}

func sameBar(x, y api.Bar) bool {
	return x.Type == y.Type && sameNodes(x.Guards, y.Guards)
}

func sameEnd(x, y api.End) bool {
	return x.Branch == y.Branch && sameNodes(x.Closes, y.Closes) && slices.EqualFunc(x.Bars, y.Bars, sameBar)
}

func sameNodes(x, y []api.Node) bool {
	return slices.EqualFunc(x, y, nodes.Same)
}
