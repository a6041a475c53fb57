package sample

import "auspice/api"

// Auto is a Good automaton by Shop, of few states and small numbers, so that much is alive; no query needs to be of it. From each state an End is reached; all states have one window, where that is asked for.
func (m *Maker) Auto(oneWindow bool) api.Auto {
	a := api.Auto{Strategy: []int{api.Strict, api.Next, api.Any}[m.Pick(3)]}
	if m.Pick(3) == 0 {
		a.Keys = []int{m.Pick(2), m.Pick(2), m.Pick(2) - 1}
	}
	window := int64(m.Pick(7))
	for i := range 1 + m.Pick(6) {
		s := api.State{Parent: i - 1, Type: m.typ(), Many: m.Pick(2) == 0, Window: window, Bars: m.bars(), Leaves: m.conditions(false), Guards: m.conditions(true)}
		if m.Pick(3) == 0 {
			s.Parent = m.Pick(i+1) - 1
		}
		if !oneWindow && m.Pick(3) == 0 {
			s.Window = int64(m.Pick(7))
		}
		a.States = append(a.States, s)
	}
	m.addEnds(a.States)
	return a
}

// addEnds adds some, one at least to a state that no other one is behind.
func (m *Maker) addEnds(states []api.State) {
	behind := map[int]int{}
	for _, s := range states {
		behind[s.Parent]++
	}
	for i := range states {
		for range max(m.Pick(3)*m.Pick(2), 1-behind[i]) {
			states[i].Ends = append(states[i].Ends, api.End{Branch: m.Pick(4), Closes: m.conditions(false), Bars: m.bars()})
		}
	}
}

func (m *Maker) typ() int {
	return []int{0, 0, 0, 1, bare}[m.Pick(5)]
}

// some is none as a rule.
func (m *Maker) some() int {
	return (1 + m.Pick(2)) * m.Pick(2) * m.Pick(2)
}

func (m *Maker) bars() []api.Bar {
	l := []api.Bar{}
	for range m.some() {
		l = append(l, api.Bar{Type: m.typ(), Guards: m.conditions(true)})
	}
	return l
}

// conditions look at the event that is asked, if one is.
func (m *Maker) conditions(asked bool) []api.Node {
	l := []api.Node{}
	for range m.some() {
		left := m.ofBinding()
		if asked {
			left = api.Node{Op: api.Cur, Kind: api.Int, Attr: 2*m.Pick(2) - 1}
		}
		l = append(l, api.Node{Op: []int{api.OpNe, api.OpGe, api.OpLe}[m.Pick(3)], Kind: api.Bool, Args: []api.Node{left, m.ofBinding()}})
	}
	return l
}

// ofBinding is a number that hangs on no event that is asked.
func (m *Maker) ofBinding() api.Node {
	if m.Pick(3) == 0 {
		return api.Node{Op: api.Const, Kind: api.Int, Value: Int(int64(m.Pick(3)))}
	}
	n := api.Node{Op: []int{api.Count, api.Of, api.First, api.Last, api.Sum}[m.Pick(5)], Kind: api.Int, Pos: m.Pick(3)}
	if n.Op != api.Count {
		n.Attr = 2*m.Pick(2) - 1
	}
	return n
}
