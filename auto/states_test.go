package auto_test

import (
	"math"
	"slices"
	"testing"

	"auspice/api"
	"auspice/auto"
)

// P14.2: what is Good, and each thing that isn't.
func TestGood(t *testing.T) {
	great := severalStates()
	great.States = append(great.States, make([]api.State, api.MaxStates-len(great.States))...)
	for i, c := range []func(a *api.Auto){
		func(a *api.Auto) {},
		func(a *api.Auto) { a.Strategy = api.Strict },
		func(a *api.Auto) { a.Strategy = api.Any },
		func(a *api.Auto) { a.Keys = []int{-77, math.MaxInt} },
		func(a *api.Auto) { a.States = nil },
		func(a *api.Auto) { a.States = great.States },
		func(a *api.Auto) { a.States[5].Parent = -1 },
		func(a *api.Auto) { a.States[5].Parent = 0 },
		func(a *api.Auto) { a.States[5].Type = math.MaxInt },
		func(a *api.Auto) { a.States[5].Window = 0 },
		func(a *api.Auto) { a.States[5].Window = api.MaxTime },
		func(a *api.Auto) { a.States[5].Ends[0].Branch = math.MaxInt },
		func(a *api.Auto) { a.States[2].Bars = []api.Bar{{Type: -7, Guards: []api.Node{{Op: -1}}}} },
		func(a *api.Auto) { a.States[2].Ends[0].Bars[0].Type = math.MinInt },
	} {
		a := severalStates()
		c(&a)
		if !auto.Good(a) {
			t.Errorf("%d isn't Good: %+v", i, a)
		}
	}
	for i, c := range []func(a *api.Auto){
		func(a *api.Auto) { *a = api.Auto{} },
		func(a *api.Auto) { a.Strategy = 0 },
		func(a *api.Auto) { a.Strategy = 4 },
		func(a *api.Auto) { a.Strategy = math.MinInt },
		func(a *api.Auto) { a.States = append(great.States, api.State{}) },
		func(a *api.Auto) { a.States[0].Parent = 0 },
		func(a *api.Auto) { a.States[0].Parent = -2 },
		func(a *api.Auto) { a.States[5].Parent = 5 },
		func(a *api.Auto) { a.States[5].Parent = 6 },
		func(a *api.Auto) { a.States[5].Parent = math.MinInt },
		func(a *api.Auto) { a.States[1].Parent = 2 },
		func(a *api.Auto) { a.States[3].Type = -1 },
		func(a *api.Auto) { a.States[3].Window = -1 },
		func(a *api.Auto) { a.States[3].Window = math.MinInt64 },
		func(a *api.Auto) { a.States[3].Window = api.MaxTime + 1 },
		func(a *api.Auto) { a.States[3].Ends[0].Branch = -1 },
		func(a *api.Auto) { a.States[0].Ends = []api.End{{}, {Branch: -1}} },
	} {
		a := severalStates()
		c(&a)
		if auto.Good(a) {
			t.Errorf("%d is Good: %+v", i, a)
		}
	}
}

// parents are states behind these.
func parents(l ...int) api.Auto {
	a := api.Auto{}
	for _, parent := range l {
		a.States = append(a.States, api.State{Parent: parent})
	}
	return a
}

func wantList(t *testing.T, what string, a api.Auto, i int, got, wanted []int) {
	t.Helper()
	if !slices.Equal(got, wanted) {
		t.Errorf("%s of %d of %+v: %v, wanted %v", what, i, a, got, wanted)
	}
}

// P14.2: children, be the automaton Good or not.
func TestChildren(t *testing.T) {
	for _, c := range []struct {
		parents  []int
		of       int
		children []int
	}{
		{nil, -1, nil},
		{nil, 0, nil},
		{[]int{-1}, -1, []int{0}},
		{[]int{-1}, 0, nil},
		{[]int{-1, 0, 0, -1, 1, 0}, -1, []int{0, 3}},
		{[]int{-1, 0, 0, -1, 1, 0}, 0, []int{1, 2, 5}},
		{[]int{-1, 0, 0, -1, 1, 0}, 1, []int{4}},
		{[]int{-1, 0, 0, -1, 1, 0}, 5, nil},
		{[]int{-1, 0, 0, -1, 1, 0}, 6, nil},
		{[]int{-1, 0, 0, -1, 1, 0}, -2, nil},
		{[]int{-1, 0, 0, -1, 1, 0}, math.MaxInt, nil},
		{[]int{-1, 0, 0, -1, 1, 0}, math.MinInt, nil},
		{[]int{1, 1, 0}, 1, []int{0, 1}},
		{[]int{-5, 7, -5}, -5, []int{0, 2}},
		{[]int{-5, 7, -5}, 7, []int{1}},
	} {
		a := parents(c.parents...)
		wantList(t, "Children", a, c.of, auto.Children(a, c.of), c.children)
	}
}

// P14.2: paths, be the automaton Good or not.
func TestPath(t *testing.T) {
	for _, c := range []struct {
		parents []int
		of      int
		path    []int
	}{
		{nil, 0, nil},
		{nil, -1, nil},
		{[]int{-1}, 0, []int{0}},
		{[]int{-1}, 1, nil},
		{[]int{-1}, -1, nil},
		{[]int{-1}, math.MaxInt, nil},
		{[]int{-1}, math.MinInt, nil},
		{[]int{-1, 0, 1, 2}, 3, []int{0, 1, 2, 3}},
		{[]int{-1, 0, 1, 2}, 1, []int{0, 1}},
		{[]int{-1, 0, 0, -1, 1, 3}, 4, []int{0, 1, 4}},
		{[]int{-1, 0, 0, -1, 1, 3}, 5, []int{3, 5}},
		{[]int{-1, 0, 0, -1, 1, 3}, 3, []int{3}},
		{[]int{0, 0, 1}, 2, []int{0, 1, 2}},
		{[]int{-1, 1, 1}, 2, []int{1, 2}},
		{[]int{-1, 2, 1}, 2, []int{1, 2}},
		{[]int{-1, 2, 3, 2}, 3, []int{2, 3}},
		{[]int{-1, 0, 2}, 2, []int{2}},
		{[]int{-1, -7, 1}, 2, []int{1, 2}},
		{[]int{math.MaxInt, 0, math.MinInt}, 1, []int{0, 1}},
		{[]int{math.MaxInt, 0, math.MinInt}, 2, []int{2}},
	} {
		a := parents(c.parents...)
		wantList(t, "Path", a, c.of, auto.Path(a, c.of), c.path)
	}
}

// copied is a copy that shares no list; empty ones are others than none.
func copied(a api.Auto) api.Auto {
	a.Keys, a.States = append([]int{}, a.Keys...), append([]api.State{}, a.States...)
	for i := range a.States {
		s := &a.States[i]
		s.Bars, s.Leaves, s.Guards = copiedBars(s.Bars), copiedNodes(s.Leaves), copiedNodes(s.Guards)
		s.Ends = append([]api.End{}, s.Ends...)
		for j := range s.Ends {
			s.Ends[j].Closes, s.Ends[j].Bars = copiedNodes(s.Ends[j].Closes), copiedBars(s.Ends[j].Bars)
		}
	}
	return a
}

func copiedBars(l []api.Bar) []api.Bar {
	l = append([]api.Bar{}, l...)
	for i := range l {
		l[i].Guards = copiedNodes(l[i].Guards)
	}
	return l
}

func copiedNodes(l []api.Node) []api.Node {
	l = append([]api.Node{}, l...)
	for i := range l {
		l[i].Args = copiedNodes(l[i].Args)
	}
	return l
}

// P14.2: a change of anything that an automaton has is seen; empty lists are as none.
func TestSame(t *testing.T) {
	deep := func(l []api.Node) []api.Node { return []api.Node{{Op: api.OpNot, Args: l}} }
	whole := func() api.Auto {
		a := severalStates()
		a.States[2].Guards = deep(a.States[2].Guards)
		return copied(a)
	}
	if !auto.Same(severalStates(), copied(severalStates())) || !auto.Same(whole(), whole()) || !auto.Same(api.Auto{}, api.Auto{Keys: []int{}, States: []api.State{}}) {
		t.Error("not the same as its copy")
	}
	for i, change := range []func(a *api.Auto){
		func(a *api.Auto) { a.Strategy++ },
		func(a *api.Auto) { a.Keys[1]-- },
		func(a *api.Auto) { a.Keys = a.Keys[:2] },
		func(a *api.Auto) { a.Keys = append(a.Keys, -1) },
		func(a *api.Auto) { a.States = a.States[:5] },
		func(a *api.Auto) { a.States = append(a.States, api.State{}) },
		func(a *api.Auto) { a.States[0], a.States[1] = a.States[1], a.States[0] },
		func(a *api.Auto) { a.States[1].Parent-- },
		func(a *api.Auto) { a.States[1].Type++ },
		func(a *api.Auto) { a.States[1].Many = true },
		func(a *api.Auto) { a.States[1].Window++ },
		func(a *api.Auto) { a.States[1].Bars = a.States[1].Bars[:1] },
		func(a *api.Auto) { a.States[1].Bars[1].Type++ },
		func(a *api.Auto) { a.States[1].Bars[1].Guards = nil },
		func(a *api.Auto) { a.States[1].Bars[1].Guards[0].Value.Bits++ },
		func(a *api.Auto) { a.States[1].Bars = append(a.States[1].Bars, api.Bar{}) },
		func(a *api.Auto) { a.States[1].Leaves[0].Pos++ },
		func(a *api.Auto) { a.States[1].Leaves = nil },
		func(a *api.Auto) { a.States[1].Guards[0].Kind++ },
		func(a *api.Auto) { a.States[1].Guards = append(a.States[1].Guards, api.Node{}) },
		func(a *api.Auto) { a.States[1].Leaves, a.States[1].Guards = a.States[1].Guards, a.States[1].Leaves },
		func(a *api.Auto) { a.States[2].Guards[0].Args[0].Attr++ },
		func(a *api.Auto) { a.States[2].Guards[0].Args = nil },
		func(a *api.Auto) { a.States[2].Ends = nil },
		func(a *api.Auto) { a.States[2].Ends = append(a.States[2].Ends, api.End{}) },
		func(a *api.Auto) { a.States[2].Ends[0].Branch-- },
		func(a *api.Auto) { a.States[2].Ends[0].Closes[0].Op++ },
		func(a *api.Auto) { a.States[2].Ends[0].Closes = nil },
		func(a *api.Auto) { a.States[2].Ends[0].Bars[0].Type-- },
		func(a *api.Auto) { a.States[2].Ends[0].Bars[0].Guards = nil },
		func(a *api.Auto) { a.States[2].Ends[0].Bars = a.States[2].Ends[0].Bars[1:] },
	} {
		a := whole()
		change(&a)
		if auto.Same(a, whole()) || auto.Same(whole(), a) {
			t.Errorf("the same behind the change %d", i)
		}
	}
}
