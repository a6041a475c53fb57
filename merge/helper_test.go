package merge_test

import (
	"fmt"
	"strconv"
	"strings"
	"testing"

	"auspice/api"
	"auspice/auto"
	"auspice/sample"
)

// made is the plan of a query by Shop that isn't too long.
func made(t *testing.T, text string) api.Plan {
	t.Helper()
	p, ok := sample.Planned(text)
	if !ok {
		t.Fatalf("too long: %s", text)
	}
	return p
}

func built(t *testing.T, p api.Plan) api.Auto {
	t.Helper()
	a, err := auto.Build(p)
	if err != api.OK {
		t.Fatalf("no automaton: %d", err)
	}
	return a
}

// dump is all that a thing has, lists written out, empty ones alike.
func dump(x any) string {
	return fmt.Sprintf("%+v", x)
}

// told is a condition that is told apart from others by its number.
func told(n int64) []api.Node {
	return []api.Node{{Op: api.Const, Kind: api.Int, Value: sample.Int(n)}}
}

// end is an End that is told apart from others by its number.
func end(n int) api.End {
	return api.End{Branch: n, Closes: told(int64(n)), Bars: []api.Bar{{Type: n, Guards: told(int64(n))}}}
}

// part is an item, and what is asked of it; # is its name.
type part struct {
	item, asked string
}

// alikeQuery has up to four branches, many of which begin alike.
func alikeQuery(m *sample.Maker) string {
	parts := []part{{"A #", ""}, {"A+ #", ""}, {"A #", "#.x > 0"}, {"A+ #", "COUNT(#) < 3"}, {"A+ #", "#.x < 2"}, {"B #", ""}, {"!B #", ""}, {"!B #", "#.x = 1"}}
	branches, asked := []string{}, []string{}
	for b := range 1 + m.Pick(4) {
		items := []string{}
		for i := range 1 + m.Pick(4) {
			name, of := "n"+strconv.Itoa(b)+strconv.Itoa(i), parts[m.Pick(len(parts))]
			if i == 0 {
				of = parts[m.Pick(5)]
			}
			items = append(items, strings.ReplaceAll(of.item, "#", name))
			if of.asked != "" {
				asked = append(asked, strings.ReplaceAll(of.asked, "#", name))
			}
		}
		branches = append(branches, "SEQ("+strings.Join(items, ", ")+")")
	}
	text := "PATTERN " + strings.Join(branches, " | ")
	if len(asked) > 0 {
		text += " WHERE " + strings.Join(asked, " AND ")
	}
	text += " STRATEGY " + []string{"STRICT", "NEXT", "ANY"}[m.Pick(3)] + " WITHIN " + strconv.Itoa(m.Pick(7))
	if m.Pick(4) == 0 {
		text += " PARTITION BY k"
	}
	return text
}

// twins is a Good automaton with copies of some of its subtrees, its states in any order that they may have.
func twins(m *sample.Maker, oneWindow bool) api.Auto {
	a := m.Auto(oneWindow)
	for range 1 + m.Pick(3) {
		if len(a.States) <= api.MaxStates/2 {
			a.States = doubled(m, a.States)
		}
	}
	if m.Pick(2) == 0 {
		a.States = shuffled(m, a.States)
	}
	return a
}

// doubled puts a copy of a state, and of all behind it, at the end. The copies' Ends are others, and something else may be, too.
func doubled(m *sample.Maker, l []api.State) []api.State {
	became, root := map[int]int{}, m.Pick(len(l))
	for i, s := range l {
		at, ok := became[s.Parent]
		switch {
		case ok:
			s.Parent = at
		case i != root:
			continue
		}
		became[i] = len(l)
		s.Ends = s.Ends[:m.Pick(len(s.Ends)+1)]
		if m.Pick(2) == 0 {
			s.Ends = []api.End{{Branch: m.Pick(4)}}
		}
		if m.Pick(9) == 0 {
			s = changed(m, s)
		}
		l = append(l, s)
	}
	return l
}

// changed differs in one thing, the Window aside.
func changed(m *sample.Maker, s api.State) api.State {
	switch m.Pick(5) {
	case 0:
		s.Type = (s.Type + 1) % 3
	case 1:
		s.Many = !s.Many
	case 2:
		s.Bars = append([]api.Bar{{Type: 1}}, s.Bars...)
	case 3:
		s.Leaves = append([]api.Node{{Op: api.Const, Kind: api.Bool, Value: sample.Bool(1)}}, s.Leaves...)
	case 4:
		s.Guards = append([]api.Node{{Op: api.Const, Kind: api.Bool, Value: sample.Bool(1)}}, s.Guards...)
	}
	return s
}

func shuffled(m *sample.Maker, l []api.State) []api.State {
	all, became := []api.State{}, map[int]int{-1: -1}
	for len(all) < len(l) {
		i := m.Pick(len(l))
		s := l[i]
		_, done := became[i]
		at, ok := became[s.Parent]
		if done || !ok {
			continue
		}
		became[i] = len(all)
		s.Parent = at
		all = append(all, s)
	}
	return all
}
