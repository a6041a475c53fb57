package auto_test

import (
	"testing"

	"auspice/api"
	"auspice/auto"
)

// P14.1: the chapter's example.
func TestExample(t *testing.T) {
	p := asked(t, "SEQ(A a, !C n, B+ b, !C m)", "COUNT(b) > 1")
	a := built(t, p)
	wantAuto(t, "example", a, api.Auto{Strategy: api.Any, States: []api.State{
		{Parent: -1, Type: 0, Window: 9},
		{Parent: 0, Type: 1, Many: true, Window: 9, Bars: []api.Bar{{Type: 2}}, Ends: []api.End{{Closes: p.Branches[0].Parts[2].Closes, Bars: []api.Bar{{Type: 2}}}}},
	}})
	if len(a.States[1].Ends[0].Closes) != 1 {
		t.Errorf("no Closes: %+v", a)
	}
}

// several is a plan by hand, each condition another one.
func several() api.Plan {
	return api.Plan{Strategy: api.Next, Keys: []int{1, -1, 0}, Branches: []api.Branch{
		{Id: 3, Window: 7, Parts: []api.Part{
			{Form: api.Many, Type: 4, Guards: told(1), Closes: told(2)},
			{Form: api.Not, Type: 5, Guards: told(3)},
			{Form: api.Not, Type: 6, Guards: told(4)},
			{Form: api.One, Type: 7, Guards: told(5), Closes: told(6)},
			{Form: api.Many, Type: 8, Guards: told(7), Closes: told(8)},
			{Form: api.Not, Type: 9, Guards: told(9)},
			{Form: api.Not, Type: 9, Guards: told(10)},
		}},
		{Id: 0, Window: 8, Parts: []api.Part{{Form: api.One, Type: 4, Guards: told(1)}}},
		{Id: 5, Window: 0, Parts: []api.Part{{Form: api.Many, Type: 1, Guards: told(11), Closes: told(12)}, {Form: api.One, Type: 1}}},
	}}
}

// severalStates are what several becomes.
func severalStates() api.Auto {
	return api.Auto{Strategy: api.Next, Keys: []int{1, -1, 0}, States: []api.State{
		{Parent: -1, Type: 4, Many: true, Window: 7, Guards: told(1)},
		{Parent: 0, Type: 7, Window: 7, Bars: []api.Bar{{Type: 5, Guards: told(3)}, {Type: 6, Guards: told(4)}}, Leaves: told(2), Guards: told(5)},
		{Parent: 1, Type: 8, Many: true, Window: 7, Leaves: told(6), Guards: told(7), Ends: []api.End{{Branch: 3, Closes: told(8), Bars: []api.Bar{{Type: 9, Guards: told(9)}, {Type: 9, Guards: told(10)}}}}},
		{Parent: -1, Type: 4, Window: 8, Guards: told(1), Ends: []api.End{{}}},
		{Parent: -1, Type: 1, Many: true, Guards: told(11)},
		{Parent: 4, Type: 1, Leaves: told(12), Ends: []api.End{{Branch: 5}}},
	}}
}

// P14.1: branch by branch, position by position.
func TestBuild(t *testing.T) {
	wantAuto(t, "several", built(t, several()), severalStates())
	wantAuto(t, "none", built(t, api.Plan{}), api.Auto{})
	wantAuto(t, "no branch", built(t, api.Plan{Strategy: api.Any, Keys: []int{2}}), api.Auto{Strategy: api.Any, Keys: []int{2}})
	p := several()
	p.Strategy = api.Strict
	p.Branches = p.Branches[1:2]
	wantAuto(t, "one state", built(t, p), api.Auto{Strategy: api.Strict, Keys: []int{1, -1, 0}, States: []api.State{{Parent: -1, Type: 4, Window: 8, Guards: told(1), Ends: []api.End{{}}}}})
}

// row is a branch of so many parts of each form.
func row(ones, manys, nots int) api.Branch {
	b := api.Branch{}
	for form, n := range map[int]int{api.One: ones, api.Many: manys, api.Not: nots} {
		for range n {
			b.Parts = append(b.Parts, api.Part{Form: form})
		}
	}
	return b
}

// P14.1: just MaxStates positive parts are no error, one more is; Nots don't count.
func TestBuildFull(t *testing.T) {
	for i, c := range []struct {
		branches []api.Branch
		states   int
	}{
		{[]api.Branch{row(0, 0, 0)}, 0},
		{[]api.Branch{row(0, 0, 99)}, 0},
		{[]api.Branch{row(api.MaxStates, 0, 0)}, api.MaxStates},
		{[]api.Branch{row(0, api.MaxStates, 99)}, api.MaxStates},
		{[]api.Branch{row(api.MaxStates+1, 0, 0)}, -1},
		{[]api.Branch{row(0, api.MaxStates+1, 0)}, -1},
		{[]api.Branch{row(8, 0, 0), row(0, 8, 0), row(4, 4, 9), row(7, 1, 0)}, api.MaxStates},
		{[]api.Branch{row(8, 0, 0), row(0, 8, 0), row(4, 4, 9), row(7, 2, 0)}, -1},
		{[]api.Branch{row(8, 0, 0), row(0, 9, 0), row(4, 4, 9), row(7, 1, 0)}, -1},
		{[]api.Branch{row(100000, 100000, 0)}, -1},
	} {
		a, err := auto.Build(api.Plan{Strategy: api.Any, Keys: []int{1}, Branches: c.branches})
		switch {
		case c.states >= 0 && (err != api.OK || len(a.States) != c.states || a.Strategy != api.Any || !auto.Good(a)):
			t.Errorf("%d: %d states, %d", i, len(a.States), err)
		case c.states < 0 && (err != api.ErrFull || dump(a) != dump(api.Auto{})):
			t.Errorf("%d: %+v, %d", i, a, err)
		}
	}
	p := asked(t, "SEQ(A a, B+ b, A c, B+ d, A e, B f, C g, C h) | SEQ(A a1, B+ b1, A c1, B+ d1, A e1, B f1, C g1, C h1) | SEQ(A a2, B+ b2, A c2, B+ d2, A e2, B f2, C g2, C h2) | SEQ(A a3, B+ b3, A c3, B+ d3, A e3, B f3, C g3, C+ h3)", "")
	if a := built(t, p); len(a.States) != api.MaxStates {
		t.Errorf("the greatest query: %d states", len(a.States))
	}
}
