package auto

import (
	"auspice/api"
	"auspice/nodes"
)

func positive(part api.Part) bool {
	return part.Form == api.One || part.Form == api.Many
}

// row is a branch's states, one behind the other, the first of which stands at the place from.
func row(b api.Branch, from int) []api.State {
	l, bars, closes := []api.State{}, []api.Bar(nil), []api.Node(nil)
	parent := none
	for _, part := range b.Parts {
		switch {
		case positive(part):
			l = append(l, api.State{
				Parent: parent,
				Type:   part.Type,
				Many:   part.Form == api.Many,
				Window: b.Window,
				Bars:   bars,
				Leaves: nodes.Copies(closes),
				Guards: nodes.Copies(part.Guards),
			})
			parent = from + len(l) - 1
			bars, closes = nil, part.Closes
		case part.Form == api.Not:
			bars = append(bars, api.Bar{Type: part.Type, Guards: nodes.Copies(part.Guards)})
		}
	}
	if len(l) > 0 {
		l[len(l)-1].Ends = []api.End{{Branch: b.Id, Closes: nodes.Copies(closes), Bars: bars}}
	}
	return l
}

// branch is what leads from a first state to one of a state's Ends.
func branch(a api.Auto, i int, end api.End) api.Branch {
	b := api.Branch{Id: end.Branch, Window: a.States[i].Window}
	path := Path(a, i)
	for pos, place := range path {
		s, closes := a.States[place], end.Closes
		if pos+1 < len(path) {
			closes = a.States[path[pos+1]].Leaves
		}
		b.Parts = append(b.Parts, nots(s.Bars)...)
		b.Parts = append(b.Parts, api.Part{Form: form(s), Type: s.Type, Guards: nodes.Copies(s.Guards), Closes: nodes.Copies(closes)})
	}
	b.Parts = append(b.Parts, nots(end.Bars)...)
	return b
}

func form(s api.State) int {
	if s.Many {
		return api.Many
	}
	return api.One
}

func nots(bars []api.Bar) []api.Part {
	l := []api.Part{}
	for _, bar := range bars {
		l = append(l, api.Part{Form: api.Not, Type: bar.Type, Guards: nodes.Copies(bar.Guards)})
	}
	return l
}
