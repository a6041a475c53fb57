package auto_test

import (
	"math/rand/v2"
	"testing"

	"auspice/api"
	"auspice/auto"
	"auspice/plan"
	"auspice/rules"
	"auspice/sample"
)

// P14.3: there and back, for queries of all sorts, as they are and rewritten.
func TestThereAndBack(t *testing.T) {
	m := &sample.Maker{Pick: rand.New(rand.NewPCG(14, 1)).IntN}
	calls := []func(p api.Plan) api.Plan{rules.Fold, rules.Clean, rules.Move, rules.Tighten, rules.Once, rules.Apply}
	left := 0
	for range 20000 {
		p, ok := sample.Planned(m.Query())
		if !ok {
			continue
		}
		branches := len(p.Branches)
		for range 3 {
			a := built(t, p)
			if q := auto.Plan(a); !plan.Same(q, p) || !auto.Good(a) {
				t.Fatalf("%+v\nbuilt and back:\n%+v", p, q)
			}
			p = calls[m.Pick(len(calls))](p)
		}
		if len(p.Branches) < branches {
			left++
		}
	}
	if left < 500 {
		t.Errorf("branches are left out of %d plans", left)
	}
}

// P14.3: by hand: a One's Closes are Leaves too, a Not ahead of all else is a Bar.
func TestPlanByHand(t *testing.T) {
	sorted := several()
	sorted.Branches[0], sorted.Branches[1] = sorted.Branches[1], sorted.Branches[0]
	wantPlan(t, "branches in order", auto.Plan(severalStates()), sorted)
	p := several()
	p.Branches = p.Branches[:1]
	p.Branches[0].Parts = append([]api.Part{{Form: api.Not, Type: 2, Guards: told(20)}}, p.Branches[0].Parts...)
	wantPlan(t, "a Not ahead", auto.Plan(built(t, p)), p)
}

// P14.3: one branch for each End, in the order of Branch, then of states, then of a state's Ends.
func TestPlanOfTree(t *testing.T) {
	end := func(branch int, n int64) api.End {
		return api.End{Branch: branch, Closes: told(n), Bars: []api.Bar{{Type: int(n), Guards: told(n + 100)}}}
	}
	a := api.Auto{Strategy: api.Strict, Keys: []int{3}, States: []api.State{
		{Parent: -1, Type: 1, Many: true, Window: 5, Leaves: told(99), Guards: told(1), Bars: []api.Bar{{Type: 8}}, Ends: []api.End{end(2, 11), end(0, 12)}},
		{Parent: -1, Type: 2, Window: 6, Guards: told(2)},
		{Parent: 0, Type: 3, Window: 7, Leaves: told(3), Guards: told(4), Bars: []api.Bar{{Type: 4, Guards: told(5)}, {Type: 5}}, Ends: []api.End{end(2, 13), end(0, 14), end(2, 15)}},
		{Parent: 2, Type: 6, Many: true, Window: 8, Leaves: told(6), Ends: []api.End{end(1, 16)}},
		{Parent: 0, Type: 7, Window: 9, Leaves: told(7), Ends: []api.End{{Branch: 2}}},
	}}
	not := func(n int64) api.Part { return api.Part{Form: api.Not, Type: int(n), Guards: told(n + 100)} }
	first := func(closes int64) []api.Part {
		return []api.Part{{Form: api.Not, Type: 8}, {Form: api.Many, Type: 1, Guards: told(1), Closes: told(closes)}}
	}
	second := func(closes int64) []api.Part {
		return append(first(3), api.Part{Form: api.Not, Type: 4, Guards: told(5)}, api.Part{Form: api.Not, Type: 5}, api.Part{Form: api.One, Type: 3, Guards: told(4), Closes: told(closes)})
	}
	wantPlan(t, "a tree", auto.Plan(a), api.Plan{Strategy: api.Strict, Keys: []int{3}, Branches: []api.Branch{
		{Id: 0, Window: 5, Parts: append(first(12), not(12))},
		{Id: 0, Window: 7, Parts: append(second(14), not(14))},
		{Id: 1, Window: 8, Parts: append(second(6), api.Part{Form: api.Many, Type: 6, Closes: told(16)}, not(16))},
		{Id: 2, Window: 5, Parts: append(first(11), not(11))},
		{Id: 2, Window: 7, Parts: append(second(13), not(13))},
		{Id: 2, Window: 7, Parts: append(second(15), not(15))},
		{Id: 2, Window: 9, Parts: append(first(7), api.Part{Form: api.One, Type: 7})},
	}})
	a.States[4].Ends, a.States[3].Ends, a.States[2].Ends, a.States[0].Ends = nil, nil, nil, nil
	wantPlan(t, "no Ends", auto.Plan(a), api.Plan{Strategy: api.Strict, Keys: []int{3}})
}

// P14.3: as many branches as Ends, where states have several children and Ends of all sorts; what is built of them is a plan's again.
func TestPlanRandom(t *testing.T) {
	m := &sample.Maker{Pick: rand.New(rand.NewPCG(14, 2)).IntN}
	full := 0
	for range 20000 {
		a := m.Auto(false)
		p, ends, id := auto.Plan(a), 0, -1
		for _, s := range a.States {
			ends += len(s.Ends)
		}
		for _, b := range p.Branches {
			if b.Id < id {
				t.Fatalf("%+v: the branches aren't in order", p)
			}
			id = b.Id
		}
		if len(p.Branches) != ends {
			t.Fatalf("%+v: there are %d branches of %d Ends", a, len(p.Branches), ends)
		}
		b, err := auto.Build(p)
		if err == api.ErrFull {
			full++
			continue
		}
		if q := auto.Plan(b); !plan.Same(p, q) {
			t.Fatalf("%+v\nbuilt and back:\n%+v", p, q)
		}
	}
	if full > 5000 {
		t.Errorf("%d have too many positions", full)
	}
}
