package step_test

import (
	"math"
	"math/rand/v2"
	"testing"

	"auspice/api"
	"auspice/sample"
	"auspice/step"
)

// P15.5: what is reckoned of queries' automata.
func TestMost(t *testing.T) {
	for _, c := range []struct {
		branches string
		k, most  int
	}{
		{"SEQ(C a)", 1, 2},
		{"SEQ(C a)", 3, 6},
		{"SEQ(C a, A b, B c, !A n)", 3, 6},
		{"SEQ(C+ a)", 1, 4},
		{"SEQ(C+ a)", 3, 24},
		{"SEQ(C a, C+ b)", 3, 24}, // each position of the path counts, the last one too
		{"SEQ(C+ a, C b)", 3, 24},
		{"SEQ(C+ a, C b, C+ c)", 3, 96},
		{"SEQ(C+ a, !C n, C+ b, C+ c)", 2, 108},
		{"SEQ(C a) | SEQ(C+ b) | SEQ(C+ c, C+ d)", 2, 4 + 12 + 36},
		{"SEQ(C a)", api.MaxLive / 2, api.MaxLive},
		{"SEQ(C a)", api.MaxLive/2 - 1, api.MaxLive - 2},
		{"SEQ(C a)", api.MaxLive/2 + 1, api.MaxLive},
		{"SEQ(C a)", api.MaxLive, api.MaxLive},
		{"SEQ(C a)", api.MaxLive + 1, api.MaxLive},
		{"SEQ(C a)", math.MaxInt, api.MaxLive},
		{"SEQ(C+ a)", 223, 99904},
		{"SEQ(C+ a)", 224, api.MaxLive},
		{"SEQ(C+ a) | SEQ(C b)", 222, 99456},
		{"SEQ(C+ a) | SEQ(C b)", 223, api.MaxLive},
		{"SEQ(C+ a, C+ b, C+ c, C+ d, C+ e, C+ f, C+ g, C+ h)", 1, 512},
		{"SEQ(C+ a, C+ b, C+ c, C+ d, C+ e, C+ f, C+ g, C+ h)", 2, 4 * 6561},
		{"SEQ(C+ a, C+ b, C+ c, C+ d, C+ e, C+ f, C+ g, C+ h)", 3, api.MaxLive},
		{"SEQ(C+ a, C+ b, C+ c, C+ d, C+ e, C+ f, C+ g, C+ h)", api.MaxLive, api.MaxLive},
		{"SEQ(C+ a)", 0, 0},
		{"SEQ(C+ a)", -1, 0},
		{"SEQ(C+ a)", math.MinInt, 0},
	} {
		for _, strategy := range []string{"STRICT", "NEXT", "ANY"} {
			a := made(t, "PATTERN "+c.branches+" STRATEGY "+strategy+" WITHIN 9")
			if got := step.Most(a, c.k); got != c.most {
				t.Errorf("%s, %d: Most %d, wanted %d", c.branches, c.k, got, c.most)
			}
		}
	}
}

// P15.5: each End counts, those of one state too; a state without any is counted where it is on a path alone.
func TestMostOfTrees(t *testing.T) {
	a := made(t, "PATTERN SEQ(C+ a, C b, C+ c) STRATEGY NEXT WITHIN 9")
	end := api.End{Branch: 1}
	for i, c := range []struct {
		first, second, third []api.End
		most                 int
	}{
		{nil, nil, nil, 0},
		{nil, nil, []api.End{end, end}, 2 * 36},
		{[]api.End{end}, nil, nil, 12},
		{[]api.End{end}, []api.End{end, end}, []api.End{end}, 12 + 2*12 + 36},
		{[]api.End{end, end, end}, nil, []api.End{end}, 3*12 + 36},
	} {
		a.States[0].Ends, a.States[1].Ends, a.States[2].Ends = c.first, c.second, c.third
		if got := step.Most(a, 2); got != c.most {
			t.Errorf("%d: Most %d, wanted %d", i, got, c.most)
		}
	}
	a.States[2].Parent = 0
	a.States[2].Ends = []api.End{end}
	a.States[0].Ends = nil
	a.States[0].Many = false
	if got := step.Most(a, 2); got != 12 {
		t.Errorf("another path: Most %d", got)
	}
	if step.Most(api.Auto{}, 5) != 0 || step.Most(api.Auto{}, api.MaxLive+1) != api.MaxLive || step.Most(api.Auto{}, 0) != 0 {
		t.Error("without states")
	}
}

// P15.5, P1: of no Good automaton, of one of very many states.
func TestMostOdd(t *testing.T) {
	o := sample.Odd{Pick: rand.New(rand.NewPCG(15, 5)).IntN}
	for range 20000 {
		if got := step.Most(o.Auto(), o.Number()); got < 0 || got > api.MaxLive {
			t.Fatalf("Most %d", got)
		}
	}
	a := api.Auto{States: make([]api.State, 1000000)}
	for i := range a.States {
		a.States[i] = api.State{Parent: i - 1, Many: true, Ends: make([]api.End, 1)}
	}
	if got := step.Most(a, 1); got != api.MaxLive {
		t.Errorf("Most %d", got)
	}
	for i := range a.States {
		a.States[i].Many = false
	}
	if got := step.Most(a, 1); got != api.MaxLive {
		t.Errorf("Most %d", got)
	}
}

// most is how many events lie within a window at most.
func most(l []api.Event, window int64) int {
	k := 0
	for i := range l {
		for j := i; j < len(l) && l[j].Time-l[i].Time <= window; j++ {
			k = max(k, j-i+1)
		}
	}
	return k
}

// P15.5: no more is alive than Most says, but under Any.
func TestMostHolds(t *testing.T) {
	m := &sample.Maker{Pick: rand.New(rand.NewPCG(15, 4)).IntN}
	near := 0
	for range 40000 {
		a, l := m.Auto(true), m.Script(14)
		if a.Strategy == api.Any {
			continue
		}
		a.Keys = nil // so that all is of one stream
		bound := step.Most(a, most(l, a.States[0].Window))
		x := machine(t, a)
		for i, e := range l {
			pushed(t, x, e)
			if x.Alive() > bound {
				t.Fatalf("%+v\nover %v, at %d: %d alive, bound %d", a, l, i, x.Alive(), bound)
			}
			if 4*x.Alive() >= bound {
				near++
			}
		}
	}
	if near < 500 {
		t.Errorf("the bound is near in %d cases", near)
	}
}
