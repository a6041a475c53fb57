package sample

import "auspice/api"

// Auto is a Good automaton by Shop, of few states and small numbers, so that much is alive; no query needs to be of it. From each state an End is reached; all states have one window, where that is asked for.
func (m *Maker) Auto(oneWindow bool) api.Auto {
	a := api.Auto{Strategy: []int{api.Strict, api.Next, api.Any}[m.Pick(3)]}
	if m.Pick(3) == 0 {
		a.Keys = []int{m.Pick(2), m.Pick(2), m.Pick(2) - 1}
	}
	window := int64(m.Pick(7))
	for i := range 1 + m.Pick(6) {
		s := api.State{Parent: i - 1, Type: m.typ(), Many: m.Pick(2) == 0, Window: window, Bars: m.bars(), Leaves: m.conditions(false), Guards: m.conditions(true)}
		if m.Pick(3) == 0 {
			s.Parent = m.Pick(i+1) - 1
		}
		if !oneWindow && m.Pick(3) == 0 {
			s.Window = int64(m.Pick(7))
		}
		a.States = append(a.States, s)
	}
	m.addEnds(a.States)
	return a
}

// addEnds adds some, one at least to a state that no other one is behind.
func (m *Maker) addEnds(states []api.State) {
	behind := map[int]int{}
	for _, s := range states {
		behind[s.Parent]++
	}
	for i := range states {
		for range max(m.Pick(3)*m.Pick(2), 1-behind[i]) {
			states[i].Ends = append(states[i].Ends, api.End{Branch: m.Pick(4), Closes: m.conditions(false), Bars: m.bars()})
		}
	}
}

func (m *Maker) typ() int {
	return []int{0, 0, 0, 1, bare}[m.Pick(5)]
}

// some is none as a rule.
func (m *Maker) some() int {
	return (1 + m.Pick(2)) * m.Pick(2) * m.Pick(2)
}

func (m *Maker) bars() []api.Bar {
	l := []api.Bar{}
	for range m.some() {
		l = append(l, api.Bar{Type: m.typ(), Guards: m.conditions(true)})
	}
	return l
}

// conditions look at the event that is asked, if one is.
func (m *Maker) conditions(asked bool) []api.Node {
	l := []api.Node{}
	for range m.some() {
		left := m.ofBinding()
		if asked {
			left = api.Node{Op: api.Cur, Kind: api.Int, Attr: 2*m.Pick(2) - 1}
		}
		l = append(l, api.Node{Op: []int{api.OpNe, api.OpGe, api.OpLe}[m.Pick(3)], Kind: api.Bool, Args: []api.Node{left, m.ofBinding()}})
	}
	return l
}

// ofBinding is a number that hangs on no event that is asked.
func (m *Maker) ofBinding() api.Node {
	if m.Pick(3) == 0 {
		return api.Node{Op: api.Const, Kind: api.Int, Value: Int(int64(m.Pick(3)))}
	}
	n := api.Node{Op: []int{api.Count, api.Of, api.First, api.Last, api.Sum}[m.Pick(5)], Kind: api.Int, Pos: m.Pick(3)}
	if n.Op != api.Count {
		n.Attr = 2*m.Pick(2) - 1
	}
	return n
}

// Fitting is an automaton as Auto's, but such that a table of it may be run: its conditions look at no more than there is.
func (m *Maker) Fitting() api.Auto {
	a := m.Auto(false)
	if len(a.Keys) > 0 {
		a.Keys[bare] = -1
	}
	for i := range a.States {
		s, path := &a.States[i], pathTo(a, i)
		ahead := sight{path[:len(path)-1], len(path) - 1, nowhere}
		if s.Parent < 0 {
			s.Bars, s.Leaves = nil, nil
		}
		ahead.fit(s.Leaves)
		ahead.fitBars(s.Bars)
		sight{path, len(path) - 1, s.Type}.fit(s.Guards)
		whole := sight{path, len(path), nowhere}
		for j := range s.Ends {
			whole.fit(s.Ends[j].Closes)
			whole.fitBars(s.Ends[j].Bars)
		}
	}
	return a
}

func pathTo(a api.Auto, i int) []api.State {
	if i < 0 {
		return nil
	}
	return append(pathTo(a, a.States[i].Parent), a.States[i])
}

// nowhere is the type of the event that is asked, where none is.
const nowhere = -1

// sight is what conditions may look at: a path's positions, of those of a One only so many first ones, and an event of a type.
type sight struct {
	path  []api.State
	ones  int
	asked int
}

func (s sight) fitBars(bars []api.Bar) {
	for i := range bars {
		s.asked = bars[i].Type
		s.fit(bars[i].Guards)
	}
}

func (s sight) fit(l []api.Node) {
	for i := range l {
		n := &l[i]
		switch {
		case n.Op == api.Cur:
			n.Attr = ofType(s.asked, n.Attr)
		case n.Op == api.Of || n.Op >= api.Count && n.Op <= api.Mean:
			s.fitLeaf(n)
		}
		s.fit(n.Args)
	}
}

// fitLeaf makes it look at the positions that it may look at, round and round; where it may look at none it is a constant.
func (s sight) fitLeaf(n *api.Node) {
	free := s.path[:s.ones]
	if len(s.path) > s.ones && s.path[s.ones].Many {
		free = s.path
	}
	if len(free) == 0 {
		*n = api.Node{Op: api.Const, Kind: api.Int, Value: Int(int64(n.Pos))}
		return
	}
	n.Pos %= len(free)
	at := free[n.Pos]
	if !at.Many {
		n.Op = api.Of
	} else if n.Op == api.Of {
		n.Op = api.First
	}
	if n.Op == api.Count {
		return
	}
	n.Attr = ofType(at.Type, 2*min(n.Attr, 0)+1) // the time or x
}

// ofType is an attribute that a type has, the time where it hasn't that one.
func ofType(typ, attr int) int {
	if typ == bare {
		return -1
	}
	return attr
}
