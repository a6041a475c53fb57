package merge_test

import (
	"math"
	"math/rand/v2"
	"strconv"
	"testing"

	"auspice/api"
	"auspice/merge"
	"auspice/sample"
)

// whole is a state that has some of all.
func whole() api.State {
	return api.State{
		Parent: 3, Type: 4, Many: true, Window: 5,
		Bars:   []api.Bar{{Type: 6, Guards: told(7)}, {Type: 8, Guards: append(told(9), told(10)...)}},
		Leaves: []api.Node{{Op: api.OpNot, Kind: api.Bool, Args: told(11)}, told(12)[0]},
		Guards: []api.Node{told(13)[0], {Op: api.OpAdd, Kind: api.Int, Args: append(told(14), told(15)...)}},
		Ends:   []api.End{end(16), end(17)},
	}
}

func wantAlike(t *testing.T, what string, x, y api.State, wanted bool) {
	t.Helper()
	if merge.Alike(x, y) != wanted || merge.Alike(y, x) != wanted {
		t.Errorf("%s: Alike isn't %v", what, wanted)
	}
	a := api.Auto{Strategy: api.Any, States: []api.State{x, {Type: 99}, y}}
	if merge.Least(a) == wanted {
		t.Errorf("%s: Least is %v", what, wanted)
	}
}

// P16.1: Ends aside, a change of anything that a state has is seen.
func TestAlike(t *testing.T) {
	wantAlike(t, "whole", whole(), whole(), true)
	wantAlike(t, "zero", api.State{}, api.State{}, true)
	wantAlike(t, "whole and zero", whole(), api.State{}, false)
	for what, change := range map[string]func(s *api.State){
		"another Parent":          func(s *api.State) { s.Parent-- },
		"a far Parent":            func(s *api.State) { s.Parent ^= math.MinInt },
		"another Type":            func(s *api.State) { s.Type++ },
		"not Many":                func(s *api.State) { s.Many = false },
		"another Window":          func(s *api.State) { s.Window++ },
		"a far Window":            func(s *api.State) { s.Window ^= 1 << 40 },
		"no Bars":                 func(s *api.State) { s.Bars = nil },
		"fewer Bars":              func(s *api.State) { s.Bars = s.Bars[:1] },
		"more Bars":               func(s *api.State) { s.Bars = append(s.Bars, api.Bar{}) },
		"another order of Bars":   func(s *api.State) { s.Bars[0], s.Bars[1] = s.Bars[1], s.Bars[0] },
		"another Bar's Type":      func(s *api.State) { s.Bars[1].Type-- },
		"a Bar without Guards":    func(s *api.State) { s.Bars[0].Guards = nil },
		"a Bar's other Guards":    func(s *api.State) { s.Bars[1].Guards[1].Value.Bits++ },
		"a Bar with more Guards":  func(s *api.State) { s.Bars[0].Guards = append(s.Bars[0].Guards, api.Node{}) },
		"no Leaves":               func(s *api.State) { s.Leaves = []api.Node{} },
		"fewer Leaves":            func(s *api.State) { s.Leaves = s.Leaves[1:] },
		"more Leaves":             func(s *api.State) { s.Leaves = append(s.Leaves, s.Leaves[1]) },
		"another order of Leaves": func(s *api.State) { s.Leaves[0], s.Leaves[1] = s.Leaves[1], s.Leaves[0] },
		"other Leaves, deep":      func(s *api.State) { s.Leaves[0].Args[0].Kind-- },
		"Leaves without Args":     func(s *api.State) { s.Leaves[0].Args = nil },
		"no Guards":               func(s *api.State) { s.Guards = nil },
		"fewer Guards":            func(s *api.State) { s.Guards = s.Guards[:1] },
		"more Guards":             func(s *api.State) { s.Guards = append(s.Guards, api.Node{}) },
		"another order of Guards": func(s *api.State) { s.Guards[0], s.Guards[1] = s.Guards[1], s.Guards[0] },
		"Guards' other Args": func(s *api.State) {
			s.Guards[1].Args[0], s.Guards[1].Args[1] = s.Guards[1].Args[1], s.Guards[1].Args[0]
		},
		"Leaves that are Guards":  func(s *api.State) { s.Leaves, s.Guards = s.Guards, s.Leaves },
		"all Leaves Guards":       func(s *api.State) { s.Leaves, s.Guards = nil, append(s.Leaves, s.Guards...) },
		"a Bar's Guard elsewhere": func(s *api.State) { s.Bars[0].Guards, s.Bars[1].Guards = append(told(7), told(9)...), told(10) },
	} {
		s := whole()
		change(&s)
		wantAlike(t, what, s, whole(), false)
	}
	for i, change := range sample.Changes() {
		for _, lists := range []func(s *api.State) []api.Node{
			func(s *api.State) []api.Node { return s.Leaves },
			func(s *api.State) []api.Node { return s.Leaves[0].Args },
			func(s *api.State) []api.Node { return s.Guards },
			func(s *api.State) []api.Node { return s.Guards[1].Args },
			func(s *api.State) []api.Node { return s.Bars[1].Guards },
		} {
			s := whole()
			l := lists(&s)
			change(&l[len(l)-1])
			wantAlike(t, "another node, "+strconv.Itoa(i), s, whole(), false)
		}
	}
}

// P16.1: Ends aren't looked at, and a list without elements is as one that there isn't.
func TestAlikeStill(t *testing.T) {
	for what, change := range map[string]func(s *api.State){
		"no Ends":                func(s *api.State) { s.Ends = nil },
		"fewer Ends":             func(s *api.State) { s.Ends = s.Ends[:1] },
		"more Ends":              func(s *api.State) { s.Ends = append(s.Ends, api.End{}) },
		"another Branch":         func(s *api.State) { s.Ends[1].Branch++ },
		"other Closes":           func(s *api.State) { s.Ends[0].Closes = told(99) },
		"other Bars of an End":   func(s *api.State) { s.Ends[0].Bars[0].Type++ },
		"no Bars of an End":      func(s *api.State) { s.Ends[0].Bars = nil },
		"another order of Ends":  func(s *api.State) { s.Ends[0], s.Ends[1] = s.Ends[1], s.Ends[0] },
		"Args that are empty":    func(s *api.State) { s.Guards[0].Args = []api.Node{} },
		"room behind the Guards": func(s *api.State) { s.Guards = append(s.Guards, api.Node{Op: 7})[:2] },
	} {
		s := whole()
		change(&s)
		wantAlike(t, what, s, whole(), true)
	}
	x, y := api.State{Parent: -1, Window: 9}, api.State{Parent: -1, Window: 9, Bars: []api.Bar{}, Leaves: []api.Node{}, Guards: []api.Node{}, Ends: []api.End{}}
	wantAlike(t, "empty lists", x, y, true)
	x.Bars, y.Bars = []api.Bar{{Type: 1}}, []api.Bar{{Type: 1, Guards: []api.Node{}}}
	wantAlike(t, "a Bar's empty Guards", x, y, true)
}

// P16.1: Least looks at each two states, wherever they stand, be the automaton Good or not.
func TestLeast(t *testing.T) {
	if !merge.Least(api.Auto{}) || !merge.Least(api.Auto{Strategy: api.Any, States: []api.State{whole()}}) {
		t.Error("none or one isn't Least")
	}
	many := func() []api.State {
		l := make([]api.State, 20)
		for i := range l {
			l[i] = whole()
			l[i].Guards[1].Args[1].Value.Bits += uint64(i % 10)
			l[i].Window += int64(i / 10)
		}
		return l
	}
	if !merge.Least(api.Auto{States: many()}) {
		t.Error("states of one head, or of one Guard, aren't Least")
	}
	for i := range 20 {
		for j := range i {
			l := many()
			l[i] = l[j]
			if merge.Least(api.Auto{States: l}) {
				t.Errorf("%d and %d are alike, and all are Least", j, i)
			}
		}
	}
}

// leastByPairs is what Least says, by Alike alone.
func leastByPairs(a api.Auto) bool {
	for i, x := range a.States {
		for _, y := range a.States[:i] {
			if merge.Alike(x, y) {
				return false
			}
		}
	}
	return true
}

// P16.1: Alike and Least of states of all sorts, against all that they have.
func TestAlikeRandom(t *testing.T) {
	o := sample.Odd{Pick: rand.New(rand.NewPCG(16, 1)).IntN}
	m := &sample.Maker{Pick: o.Pick}
	alike, least := 0, map[bool]int{}
	for range 10000 {
		a := o.Auto()
		if o.Pick(2) == 0 {
			a = twins(m, false)
		}
		for _, x := range a.States {
			for _, y := range a.States {
				got := merge.Alike(x, y)
				x.Ends, y.Ends = nil, nil
				if got != (dump(x) == dump(y)) {
					t.Fatalf("%+v\n%+v: Alike is %v", x, y, got)
				}
				if got {
					alike++
				}
			}
		}
		if merge.Least(a) != leastByPairs(a) {
			t.Fatalf("%+v: Least is %v", a, merge.Least(a))
		}
		least[merge.Least(a)]++
	}
	if alike < 10000 || least[true] < 1000 || least[false] < 1000 {
		t.Errorf("%d are alike, Least is %v", alike, least)
	}
}
