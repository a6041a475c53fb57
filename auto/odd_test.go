package auto_test

import (
	"math/rand/v2"
	"testing"

	"auspice/api"
	"auspice/auto"
	"auspice/sample"
)

// P1: all calls end, and none panics, whatever they are given.
func TestAnything(t *testing.T) {
	o := sample.Odd{Pick: rand.New(rand.NewPCG(14, 3)).IntN}
	good := 0
	for range 30000 {
		p, a, b := o.Plan(), o.Auto(), o.Auto()
		auto.Build(p)
		auto.Plan(a)
		auto.Children(a, o.Number())
		auto.Path(a, o.Number())
		if auto.Good(a) {
			good++
		}
		if !auto.Same(a, a) || auto.Same(a, b) != (dump(a) == dump(b)) {
			t.Fatalf("Same of %+v, %+v", a, b)
		}
	}
	if good < 1000 {
		t.Errorf("%d are Good", good)
	}
}

// P1: forms that there aren't, a branch without positive parts.
func TestOddParts(t *testing.T) {
	not := api.Part{Form: api.Not, Type: 1}
	for _, parts := range [][]api.Part{nil, {}, {not}, {not, not}, {{Form: 0}, {Form: 4}, {Form: -1}}} {
		p := api.Plan{Strategy: api.Any, Branches: []api.Branch{{Parts: parts}, {Id: 1, Parts: []api.Part{{Form: api.One}}}}}
		if a := built(t, p); len(a.States) != 1 || a.States[0].Ends[0].Branch != 1 {
			t.Errorf("%+v: %+v", parts, a)
		}
	}
}

// chain is an automaton of very many states, each with an End, and each behind the one ahead of it.
func chain(n int) api.Auto {
	a := api.Auto{Strategy: api.Any, States: make([]api.State, n)}
	for i := range a.States {
		a.States[i] = api.State{Parent: i - 1, Ends: make([]api.End, 1)}
	}
	return a
}

// P1: automata that are greater than any Good one.
func TestGreat(t *testing.T) {
	a := chain(1000000)
	if path := auto.Path(a, 999999); len(path) != 1000000 || path[0] != 0 || path[999999] != 999999 {
		t.Errorf("a path of %d states", len(path))
	}
	if l := auto.Children(a, 500000); len(l) != 1 || l[0] != 500001 {
		t.Errorf("children: %v", l)
	}
	if auto.Good(a) || len(auto.Plan(a).Branches) != 0 || !auto.Same(a, a) {
		t.Error("a great one is Good")
	}
	a = chain(api.MaxStates)
	a.States[31].Ends = make([]api.End, 20000)
	if p := auto.Plan(a); len(p.Branches) != 20031 || len(p.Branches[20030].Parts) != 32 {
		t.Errorf("%d branches", len(p.Branches))
	}
}

// P1: conditions that go round, share, or are deep.
func TestOddConditions(t *testing.T) {
	leaf := api.Node{Op: api.Cur, Kind: api.Bool}
	odd := func() [][]api.Node {
		l := [][]api.Node{}
		for _, n := range []api.Node{sample.Circle(api.OpAnd, 1), sample.Circle(api.OpNot, 2), sample.Shared(api.OpOr, 300, leaf), sample.Shared(api.OpOr, 9, leaf), sample.Far(api.OpNot, 10000, leaf)} {
			l = append(l, []api.Node{n, n})
		}
		return l
	}
	made := func(l []api.Node) (api.Plan, api.Auto) {
		p := several()
		for _, b := range p.Branches {
			for i := range b.Parts {
				b.Parts[i].Guards, b.Parts[i].Closes = l, l
			}
		}
		return p, built(t, p)
	}
	for i, l := range odd() {
		p, a := made(l)
		if circle := i < 2; !circle && !auto.Same(built(t, auto.Plan(a)), built(t, sortedById(p))) {
			t.Errorf("%d: another one there and back", i)
		}
		auto.Plan(a)
		for j, m := range odd() {
			p.Branches[0].Parts[0].Guards = m
			if b := built(t, p); auto.Same(a, b) != (i == j) {
				t.Errorf("Same of %d and %d", i, j)
			}
		}
	}
}

// sortedById is several with its branches in the order of their Ids.
func sortedById(p api.Plan) api.Plan {
	p.Branches = []api.Branch{p.Branches[1], p.Branches[0], p.Branches[2]}
	return p
}

// planLists are all lists of conditions of a plan.
func planLists(plans ...api.Plan) [][]api.Node {
	l := [][]api.Node{}
	for _, p := range plans {
		for _, b := range p.Branches[:cap(p.Branches)] {
			for _, part := range b.Parts[:cap(b.Parts)] {
				l = append(l, part.Guards, part.Closes)
			}
		}
	}
	return l
}

func planRooms(p api.Plan) []any {
	l := append(sample.Addresses(p.Keys), sample.Addresses(p.Branches)...)
	for _, b := range p.Branches[:cap(p.Branches)] {
		l = append(l, sample.Addresses(b.Parts)...)
	}
	return l
}

func wantApart(t *testing.T, what string, all ...[]any) {
	t.Helper()
	if !sample.Once(all...) {
		t.Fatalf("%s: lists share memory", what)
	}
}

// sharedPlan has each list in several places, with spare room.
func sharedPlan() api.Plan {
	l := append(make([]api.Node, 0, 9), sample.Shared(api.OpAnd, 3, api.Node{Op: api.Cur}), api.Node{Op: api.Of})
	not := api.Part{Form: api.Not, Type: 2, Guards: l, Closes: l}
	parts := append(make([]api.Part, 0, 12), api.Part{Form: api.Many, Guards: l, Closes: l}, not, not, api.Part{Form: api.One, Guards: l, Closes: l}, not, not)
	return api.Plan{Strategy: api.Any, Keys: append(make([]int, 0, 9), 1, 2), Branches: append(make([]api.Branch, 0, 5), api.Branch{Parts: parts}, api.Branch{Id: 1, Parts: parts}, api.Branch{Id: 2, Parts: parts[:4]})}
}

// sharedAuto has each list in several places, with spare room.
func sharedAuto() api.Auto {
	a := severalStates()
	l := append(make([]api.Node, 0, 9), sample.Shared(api.OpAnd, 3, api.Node{Op: api.Cur}), api.Node{Op: api.Of})
	bars := append(make([]api.Bar, 0, 7), api.Bar{Guards: l}, api.Bar{Type: 3, Guards: l})
	ends := append(make([]api.End, 0, 7), api.End{Branch: 2, Closes: l, Bars: bars}, api.End{Branch: 1, Closes: l, Bars: bars})
	for i := range a.States {
		s := &a.States[i]
		s.Guards, s.Leaves, s.Bars, s.Ends = l, l, bars, ends
	}
	return a
}

// The rule on memory: what is handed in isn't changed, spare room included; an answer shares no list with it, with another answer, or within itself.
func TestMemory(t *testing.T) {
	m := &sample.Maker{Pick: rand.New(rand.NewPCG(14, 4)).IntN}
	plans, automata := []api.Plan{sharedPlan(), several()}, []api.Auto{sharedAuto(), severalStates()}
	for range 300 {
		if p, ok := sample.Planned(m.Query()); ok {
			plans = append(plans, p)
		}
		automata = append(automata, m.Auto(false))
	}
	for _, p := range plans {
		before := dump(p) + dump(p.Branches[:cap(p.Branches)])
		first, second := built(t, p), built(t, p)
		if dump(p)+dump(p.Branches[:cap(p.Branches)]) != before || !sample.Apart(sample.AutoConditions(first, second), planLists(p)) {
			t.Fatalf("Build of %s", before)
		}
		wantApart(t, "Build", sample.Addresses(p.Keys), sample.AutoRooms(first), sample.AutoRooms(second))
	}
	for _, a := range automata {
		before := dump(a) + dump(a.States[:cap(a.States)])
		first, second := auto.Plan(a), auto.Plan(a)
		wantApart(t, "Path", sample.Addresses(auto.Path(a, 0)), sample.Addresses(auto.Path(a, 0)))
		wantApart(t, "Children", sample.Addresses(auto.Children(a, -1)), sample.Addresses(auto.Children(a, -1)))
		auto.Same(a, a)
		auto.Good(a)
		if dump(a)+dump(a.States[:cap(a.States)]) != before || !sample.Apart(planLists(first, second), sample.AutoConditions(a)) {
			t.Fatalf("Plan of %s", before)
		}
		wantApart(t, "Plan", sample.Addresses(a.Keys), planRooms(first), planRooms(second))
	}
}
