package merge_test

import (
	"math/rand/v2"
	"testing"

	"auspice/api"
	"auspice/auto"
	"auspice/merge"
	"auspice/sample"
)

// wantMerged holds what is made of states against others, and asks what holds of all that is made.
func wantMerged(t *testing.T, what string, from, wanted []api.State) {
	t.Helper()
	a := api.Auto{Strategy: api.Next, Keys: []int{2, -1}, States: from}
	got := merge.Merge(a)
	if dump(got) != dump(api.Auto{Strategy: api.Next, Keys: []int{2, -1}, States: wanted}) {
		t.Errorf("%s:\n%+v, wanted\n%+v", what, got, wanted)
	}
	if !merge.Least(got) || !auto.Good(got) || !auto.Same(merge.Merge(got), got) {
		t.Errorf("%s: something is left to merge in %+v", what, got)
	}
	if merge.Least(a) != (len(from) == len(wanted)) {
		t.Errorf("%s: Least is %v ahead", what, merge.Least(a))
	}
}

// state is one of a Type behind a Parent, with Ends of these numbers.
func state(parent, typ int, ends ...int) api.State {
	s := api.State{Parent: parent, Type: typ, Window: 9, Guards: told(int64(typ))}
	for _, n := range ends {
		s.Ends = append(s.Ends, end(n))
	}
	return s
}

// The chapter's example.
func TestExample(t *testing.T) {
	a := built(t, made(t, "PATTERN SEQ(A a, B b) | SEQ(A c, C d) STRATEGY NEXT WITHIN 9"))
	got := merge.Merge(a)
	wanted := api.Auto{Strategy: api.Next, States: []api.State{
		{Parent: -1, Type: 0, Window: 9},
		{Parent: 0, Type: 1, Window: 9, Ends: []api.End{{Branch: 0}}},
		{Parent: 0, Type: 2, Window: 9, Ends: []api.End{{Branch: 1}}},
	}}
	if len(a.States) != 4 || merge.Least(a) || !merge.Least(got) || dump(got) != dump(wanted) {
		t.Errorf("%+v of %+v", got, a)
	}
}

// P16.2: nothing is alike: all stays.
func TestMergeNothing(t *testing.T) {
	wantMerged(t, "none", nil, nil)
	for _, l := range [][]api.State{
		{state(-1, 0)},
		{state(-1, 0, 3, 1, 3)},
		{state(-1, 0), state(0, 0), state(1, 0), state(2, 0, 0)},
		{state(-1, 0), state(-1, 1), state(0, 2, 0), state(1, 2, 1)}, // behind others
		{state(-1, 0), state(0, 1, 0), state(0, 2, 1), state(1, 2, 2), state(2, 1, 3)},
	} {
		wantMerged(t, "nothing", l, l)
	}
}

// P16.2: state by state, a state that is alike with one that there is already becomes that one.
func TestMerge(t *testing.T) {
	wantMerged(t, "two", []api.State{state(-1, 0, 1), state(-1, 0, 0)}, []api.State{state(-1, 0, 1, 0)})
	wantMerged(t, "Ends, none and the same", []api.State{state(-1, 0), state(-1, 0, 1), state(-1, 0, 1), state(-1, 0)}, []api.State{state(-1, 0, 1, 1)})
	wantMerged(t, "Ends in order", []api.State{state(-1, 0, 5, 4), state(-1, 1, 9), state(-1, 0, 6), state(-1, 1), state(-1, 0, 3, 5)}, []api.State{state(-1, 0, 5, 4, 6, 3, 5), state(-1, 1, 9)})
	wantMerged(t, "rows that are one", []api.State{state(-1, 0), state(0, 1), state(1, 2, 0), state(-1, 0), state(3, 1), state(4, 2, 1)}, []api.State{state(-1, 0), state(0, 1), state(1, 2, 0, 1)})
	wantMerged(t, "a row that is another's beginning", []api.State{state(-1, 0), state(0, 1), state(1, 2, 0), state(-1, 0), state(3, 1, 1)}, []api.State{state(-1, 0), state(0, 1, 1), state(1, 2, 0)})
	wantMerged(t, "rows that begin alike", []api.State{state(-1, 0), state(0, 1, 0), state(-1, 0), state(2, 2, 1), state(-1, 0), state(4, 1), state(5, 1, 2)}, []api.State{state(-1, 0), state(0, 1, 0), state(0, 2, 1), state(1, 1, 2)})
	wantMerged(t, "rows that end alike", []api.State{state(-1, 0), state(0, 1), state(1, 2, 0), state(-1, 3), state(3, 1), state(4, 2, 1)}, []api.State{state(-1, 0), state(0, 1), state(1, 2, 0), state(-1, 3), state(3, 1), state(4, 2, 1)})
	wantMerged(t, "children of one", []api.State{state(-1, 0), state(0, 1, 0), state(0, 1), state(2, 2, 1), state(1, 2, 2)}, []api.State{state(-1, 0), state(0, 1, 0), state(1, 2, 1, 2)})
}

// P16.2: what counts is what a Parent became, not where it stood.
func TestMergeParents(t *testing.T) {
	wantMerged(t, "one Parent, told by two numbers", []api.State{state(-1, 0), state(-1, 0), state(0, 1, 0), state(1, 1, 1)}, []api.State{state(-1, 0), state(0, 1, 0, 1)})
	wantMerged(t, "two Parents, told by one number", []api.State{state(-1, 0), state(-1, 0), state(-1, 1), state(1, 2, 0), state(2, 2, 1)}, []api.State{state(-1, 0), state(-1, 1), state(0, 2, 0), state(1, 2, 1)})
	wantMerged(t, "all behind one that moves", []api.State{state(-1, 0), state(-1, 0), state(-1, 0), state(-1, 1), state(3, 2), state(4, 3, 0), state(2, 3, 1)}, []api.State{state(-1, 0), state(-1, 1), state(1, 2), state(2, 3, 0), state(0, 3, 1)})
}

// P16.2: all the states that there may be.
func TestMergeMany(t *testing.T) {
	first, row, apart := []api.State{}, []api.State{}, []api.State{}
	all := state(-1, 0)
	for i := range api.MaxStates {
		first = append(first, state(-1, 0, i))
		row = append(row, state(i-1, 0, i))
		apart = append(apart, state(-1, i, 0))
		all.Ends = append(all.Ends, end(i))
	}
	wantMerged(t, "all one", first, []api.State{all})
	wantMerged(t, "a row of like things", row, row)
	wantMerged(t, "all apart", apart, apart)
}

// P16.2: states that differ in one thing stay two, with all behind them.
func TestMergeApart(t *testing.T) {
	for what, change := range map[string]func(s *api.State){
		"Type":         func(s *api.State) { s.Type++ },
		"Many":         func(s *api.State) { s.Many = false },
		"Window":       func(s *api.State) { s.Window++ },
		"a Bar":        func(s *api.State) { s.Bars = s.Bars[:1] },
		"a Bar's Type": func(s *api.State) { s.Bars[0].Type++ },
		"a Bar asked":  func(s *api.State) { s.Bars[0].Guards = told(99) },
		"a Leaf":       func(s *api.State) { s.Leaves = s.Leaves[1:] },
		"Leaves":       func(s *api.State) { s.Leaves[1] = told(99)[0] },
		"a Guard":      func(s *api.State) { s.Guards = append(s.Guards, told(99)...) },
		"Guards":       func(s *api.State) { s.Guards[0] = told(99)[0] },
	} {
		x, y := whole(), whole()
		x.Parent, y.Parent = 0, 0
		change(&y)
		l := []api.State{state(-1, 0), x, y, state(1, 1, 1), state(2, 1, 2)}
		wantMerged(t, what, l, l)
		again := append(append([]api.State{}, l...), y, state(5, 1, 3), x, state(7, 1, 4))
		x.Ends, y.Ends = append(x.Ends, x.Ends...), append(y.Ends, y.Ends...)
		wantMerged(t, what+", each twice", again, []api.State{state(-1, 0), x, y, state(1, 1, 1, 4), state(2, 1, 2, 3)})
	}
}

// literal does what the chapter says, word by word.
func literal(a api.Auto) api.Auto {
	l, became := []api.State{}, map[int]int{-1: -1}
	for i, s := range a.States {
		s.Parent = became[s.Parent]
		for at, x := range l {
			y := s
			x.Ends, y.Ends = nil, nil
			if dump(x) == dump(y) {
				l[at].Ends = append(append([]api.End{}, l[at].Ends...), s.Ends...)
				became[i] = at
			}
		}
		if _, ok := became[i]; !ok {
			became[i] = len(l)
			l = append(l, s)
		}
	}
	a.States = l
	return a
}

// P16.2: Good automata of all sorts, against the chapter's words.
func TestMergeRandom(t *testing.T) {
	o := sample.Odd{Pick: rand.New(rand.NewPCG(16, 2)).IntN}
	m := &sample.Maker{Pick: o.Pick}
	fewer := map[int]int{}
	for range 20000 {
		a := o.Auto()
		if o.Pick(2) == 0 {
			a = twins(m, false)
		}
		if !auto.Good(a) {
			continue
		}
		got, wanted := merge.Merge(a), literal(a)
		if dump(got) != dump(wanted) {
			t.Fatalf("%+v:\n%+v, wanted\n%+v", a, got, wanted)
		}
		if !auto.Good(got) || !merge.Least(got) || !auto.Same(merge.Merge(got), got) {
			t.Fatalf("%+v:\n%+v: something is left to merge", a, got)
		}
		fewer[min(3, len(a.States)-len(got.States))]++
	}
	if fewer[0] < 1000 || fewer[1] < 1000 || fewer[2] < 1000 || fewer[3] < 1000 {
		t.Errorf("so many have that many states fewer: %v", fewer)
	}
}
