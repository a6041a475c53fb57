package merge_test

import (
	"math"
	"math/rand/v2"
	"testing"

	"auspice/api"
	"auspice/auto"
	"auspice/merge"
	"auspice/sample"
	"auspice/step"
)

// P1: all calls end, and none panics, whatever they are given.
func TestAnything(t *testing.T) {
	o := sample.Odd{Pick: rand.New(rand.NewPCG(16, 8)).IntN}
	good := map[bool]int{}
	for range 30000 {
		a, b := o.Auto(), o.Auto()
		merged := merge.Merge(a)
		merge.Least(a)
		for _, x := range a.States {
			for _, y := range b.States {
				if merge.Alike(x, y) != merge.Alike(y, x) {
					t.Fatalf("Alike of %+v, %+v", x, y)
				}
			}
		}
		if !auto.Good(a) && dump(merged) != dump(api.Auto{}) {
			t.Fatalf("%+v of %+v", merged, a)
		}
		good[auto.Good(a)]++
	}
	if good[true] < 1000 || good[false] < 1000 {
		t.Errorf("Good are %v", good)
	}
}

// P1: Parents that are no states ahead, and what else no Good automaton has.
func TestFaulty(t *testing.T) {
	for i, change := range []func(a *api.Auto){
		func(a *api.Auto) { a.Strategy = 0 },
		func(a *api.Auto) { a.Strategy = 4 },
		func(a *api.Auto) { a.States[0].Parent = 0 },
		func(a *api.Auto) { a.States[0].Parent = 2 },
		func(a *api.Auto) { a.States[1].Parent = -2 },
		func(a *api.Auto) { a.States[1].Parent = math.MinInt },
		func(a *api.Auto) { a.States[2].Parent = 2 },
		func(a *api.Auto) { a.States[2].Parent = 3 },
		func(a *api.Auto) { a.States[2].Parent = math.MaxInt },
		func(a *api.Auto) { a.States[1].Type = -1 },
		func(a *api.Auto) { a.States[1].Window = -1 },
		func(a *api.Auto) { a.States[1].Window = api.MaxTime + 1 },
		func(a *api.Auto) { a.States[2].Ends[0].Branch = -1 },
		func(a *api.Auto) { a.States = make([]api.State, api.MaxStates+1) },
	} {
		a := api.Auto{Strategy: api.Any, States: []api.State{state(-1, 0), state(-1, 1), state(0, 2, 3)}}
		if !merge.Least(a) || !auto.Same(merge.Merge(a), a) {
			t.Fatalf("%+v merged: %+v", a, merge.Merge(a))
		}
		change(&a)
		if merged := merge.Merge(a); dump(merged) != dump(api.Auto{}) {
			t.Errorf("%d: %+v", i, merged)
		}
		if merge.Least(a) != leastByPairs(a) {
			t.Errorf("%d: Least is %v", i, merge.Least(a))
		}
	}
}

// P1: automata that are greater than any Good one.
func TestGreat(t *testing.T) {
	a := api.Auto{Strategy: api.Any, States: make([]api.State, 1000000)}
	for i := range a.States {
		a.States[i] = api.State{Parent: i - 1, Ends: make([]api.End, 1)}
	}
	if !merge.Least(a) || len(merge.Merge(a).States) > 0 {
		t.Error("a row isn't Least")
	}
	a.States[999999].Parent = 499999
	if merge.Least(a) {
		t.Error("two of a row are alike, and all are Least")
	}
	a.States = a.States[:api.MaxStates]
	for i := range a.States {
		a.States[i] = api.State{Parent: -1, Ends: make([]api.End, 20000), Bars: make([]api.Bar, 20000)}
	}
	if l := merge.Merge(a).States; len(l) != 1 || len(l[0].Ends) != api.MaxStates*20000 || len(l[0].Bars) != 20000 {
		t.Errorf("%d states", len(l))
	}
}

// P1, P16.1: conditions that go round, share, or are deep.
func TestOddConditions(t *testing.T) {
	yes := api.Node{Op: api.Const, Kind: api.Bool, Value: sample.Bool(1)}
	odd := func() [][]api.Node {
		l := [][]api.Node{}
		for _, n := range []api.Node{sample.Circle(api.OpAnd, 1), sample.Circle(api.OpNot, 2), sample.Shared(api.OpOr, 300, yes), sample.Shared(api.OpOr, 9, yes), sample.Far(api.OpNot, 10000, yes)} {
			l = append(l, []api.Node{n, n})
		}
		return l
	}
	states := []api.State{}
	for i, l := range odd() {
		s := api.State{Parent: -1, Leaves: l, Guards: l, Bars: []api.Bar{{Guards: l}}, Ends: []api.End{{Closes: l, Bars: []api.Bar{{Guards: l}}}}}
		for j, m := range odd() {
			for _, other := range []api.State{
				{Parent: -1, Leaves: m, Guards: l, Bars: []api.Bar{{Guards: l}}},
				{Parent: -1, Leaves: l, Guards: m, Bars: []api.Bar{{Guards: l}}},
				{Parent: -1, Leaves: l, Guards: l, Bars: []api.Bar{{Guards: m}}},
			} {
				if merge.Alike(s, other) != (i == j) || merge.Least(api.Auto{States: []api.State{s, other}}) != (i != j) {
					t.Errorf("Alike of %d and %d", i, j)
				}
			}
		}
		states = append(states, s, s)
	}
	merged := merge.Merge(api.Auto{Strategy: api.Any, States: states})
	if len(merged.States) != len(odd()) || len(merged.States[0].Ends) != 2 {
		t.Errorf("%d states", len(merged.States))
	}
	for i, s := range merged.States {
		if circle := i < 2; !circle && !merge.Alike(s, states[2*i]) {
			t.Errorf("%d became another", i)
		}
	}
	whole := api.Auto{Strategy: api.Any, States: merged.States[2:]}
	if !merge.Least(whole) || !auto.Same(merge.Merge(whole), whole) {
		t.Error("something is left to merge")
	}
	if _, _, err := step.Run(sample.Shop(), merged, []api.Event{{Type: 2}, {Type: 2}}); err != api.OK {
		t.Errorf("Run: %d", err)
	}
}

// roomy has each list in several places, with room behind it.
func roomy() api.Auto {
	l := append(make([]api.Node, 0, 9), sample.Shared(api.OpAnd, 3, api.Node{Op: api.Cur}), api.Node{Op: api.Of})
	bars := append(make([]api.Bar, 0, 7), api.Bar{Guards: l}, api.Bar{Type: 3, Guards: l})
	ends := append(make([]api.End, 0, 70), api.End{Branch: 2, Closes: l, Bars: bars}, api.End{Branch: 1, Closes: l, Bars: bars})
	a := api.Auto{Strategy: api.Next, Keys: append(make([]int, 0, 9), 1, 2), States: make([]api.State, 0, 60)}
	for _, parent := range []int{-1, -1, 0, 1, 2, 2, -1, 6} {
		a.States = append(a.States, api.State{Parent: parent, Leaves: l, Guards: l, Bars: bars, Ends: ends})
	}
	return a
}

// rooms is all that an automaton has, spare room included.
func rooms(a api.Auto) string {
	text := dump(a.Keys[:cap(a.Keys)]) + dump(a.States[:cap(a.States)])
	for _, s := range a.States {
		text += dump(s.Guards[:cap(s.Guards)]) + dump(s.Leaves[:cap(s.Leaves)]) + dump(s.Bars[:cap(s.Bars)]) + dump(s.Ends[:cap(s.Ends)])
		for _, end := range s.Ends {
			text += dump(end.Closes[:cap(end.Closes)]) + dump(end.Bars[:cap(end.Bars)])
		}
	}
	return text
}

// The rule on memory: what is handed in isn't changed, spare room included; an answer shares no list with it, with another answer, or within itself.
func TestMemory(t *testing.T) {
	m := &sample.Maker{Pick: rand.New(rand.NewPCG(16, 9)).IntN}
	automata := []api.Auto{roomy()}
	for range 500 {
		automata = append(automata, twins(m, false))
	}
	for _, a := range automata {
		before := rooms(a)
		first, second := merge.Merge(a), merge.Merge(a)
		merge.Least(a)
		merge.Alike(a.States[0], a.States[len(a.States)-1])
		if rooms(a) != before {
			t.Fatalf("%s\nis changed, now\n%s", before, rooms(a))
		}
		if !sample.Apart(sample.AutoConditions(first, second), sample.AutoConditions(a)) {
			t.Fatalf("%s: conditions share memory", before)
		}
		if !sample.Once(sample.AutoRooms(first), sample.AutoRooms(second)) || !apart(a, first) || !apart(a, second) {
			t.Fatalf("%s: lists share memory", before)
		}
	}
}

// apart tells whether two automata have no room in common. One of them may have lists that are in it several times.
func apart(a, b api.Auto) bool {
	met := map[any]bool{}
	for _, x := range sample.AutoRooms(a) {
		met[x] = true
	}
	for _, x := range sample.AutoRooms(b) {
		if met[x] {
			return false
		}
	}
	return true
}

// What a call answers hangs on its arguments alone.
func TestAgain(t *testing.T) {
	m := &sample.Maker{Pick: rand.New(rand.NewPCG(16, 10)).IntN}
	for range 1000 {
		a, b := twins(m, false), twins(m, false)
		wanted := dump(merge.Merge(a))
		merge.Merge(b)
		if got := dump(merge.Merge(a)); got != wanted {
			t.Fatalf("%s, then %s", wanted, got)
		}
	}
}
