package load

import (
	"slices"

	"auspice/api"
)

// sight is what the inputs of a code may look at, where it is told.
type sight struct {
	state int // the events of its path's positions; none: there is no path
	ones  int // of positions of a One only these first ones
	asked int // an event of this type that is asked; none: there is none
}

// telling is that a code is told, and with what sight.
type telling struct {
	code int
	sight
}

// tellings are each there once, since there may be very many Bars that are alike.
type tellings map[telling]struct{}

func (l tellings) add(code int, s sight) {
	if code != none {
		l[telling{code, s}] = struct{}{}
	}
}

func (l tellings) addStops(stops []api.Stop, s sight) {
	for _, stop := range stops {
		s.asked = stop.Type
		l.add(stop.Guard, s)
	}
}

// addState adds what a state tells.
func (l tellings) addState(t api.Table, i int) {
	s, own := t.States[i], len(Path(t, i))-1
	ahead := sight{state: s.Parent, ones: own, asked: none}
	l.add(s.Leave, ahead)
	l.addStops(s.Bars, ahead)
	// the event at its own position is yet to come; of a Many others may be there
	l.add(s.Guard, sight{state: i, ones: own, asked: s.Type})
	whole := sight{state: i, ones: own + 1, asked: none}
	for _, end := range s.Ends {
		l.add(end.Close, whole)
		l.addStops(end.Bars, whole)
	}
}

// codesFit tells whether each code that is told is there, and fits wherever it is told, and whether all codes are told.
func codesFit(t api.Table) bool {
	all, told := tellings{}, make([]bool, len(t.Codes))
	for i := range t.States {
		all.addState(t, i)
	}
	for x := range all {
		if !within(x.code, 0, len(t.Codes)-1) || !x.fits(t, t.Codes[x.code].Inputs) {
			return false
		}
		told[x.code] = true
	}
	return !slices.Contains(told, false)
}

func (s sight) fits(t api.Table, inputs []api.Input) bool {
	path := Path(t, s.state)
	return !slices.ContainsFunc(inputs, func(x api.Input) bool {
		typ := s.typeOf(t, path, x)
		return typ == none || x.Kind != made(x.Op, kindOf(t.Kinds[typ], x.Attr))
	})
}

// typeOf is the type of the events that an input looks at; none: it may not look there.
func (s sight) typeOf(t api.Table, path []int, x api.Input) int {
	if x.Op == api.Cur {
		return s.asked
	}
	if x.Pos >= len(path) {
		return none
	}
	at, ofOne := t.States[path[x.Pos]], x.Op == api.Of
	if ofOne == at.Many || ofOne && x.Pos >= s.ones {
		return none
	}
	return at.Type
}

// kindOf is an attribute's, poison where there is none.
func kindOf(kinds []int, attr int) int {
	switch {
	case attr == none:
		return api.Int
	case within(attr, 0, len(kinds)-1):
		return kinds[attr]
	}
	return api.Poison
}

// made is the kind of what an input of that Op makes of attributes of that kind, poison where it makes nothing of them. (No input of good code has that kind.)
func made(op, kind int) int {
	switch op {
	case api.Count:
		return api.Int
	case api.Sum, api.Min, api.Max:
		if kind != api.Int && kind != api.Real {
			return api.Poison
		}
	case api.Mean:
		if kind != api.Real {
			return api.Poison
		}
	}
	return kind
}
