package rules_test

import (
	"math"
	"testing"

	"auspice/api"
	"auspice/rules"
	"auspice/sample"
)

// P13.4: the window becomes what the guards say.
func TestTighten(t *testing.T) {
	for _, c := range []struct {
		branches, conditions string
		window               int
		wanted               string
		wantedWindow         int
	}{
		{"SEQ(A a, B b)", "b.TIME - a.TIME <= 3", 9, "", 3},
		{"SEQ(A a, B b)", "b.TIME - a.TIME < 3", 9, "", 2},
		{"SEQ(A a, B b)", "b.TIME - a.TIME <= 0", 9, "", 0},
		{"SEQ(A a, B b)", "b.TIME - a.TIME < 1", 9, "", 0},
		{"SEQ(A a, B b)", "b.TIME - a.TIME <= 9", 9, "", 9},
		{"SEQ(A a, B b)", "b.TIME - a.TIME <= 8", 9, "", 8},
		{"SEQ(A a, B b)", "b.TIME - a.TIME < 10", 9, "", 9},
		{"SEQ(A a, B b)", "b.TIME - a.TIME < 9", 9, "", 8},
		{"SEQ(A a, B b)", "b.TIME - a.TIME <= 9223372036854775807", 9, "", 9},
		{"SEQ(A a, B b)", "b.TIME - a.TIME <= 3", 0, "", 0},
		// several, and others between
		{"SEQ(A a, B b)", "b.x > 1 AND b.TIME - a.TIME <= 5 AND b.b AND b.TIME - a.TIME <= 4 AND b.TIME - a.TIME < 7 AND a.b", 9, "b.x > 1 AND b.b AND a.b", 4},
		// of a Many, from a Many, over others
		{"SEQ(A a, B+ b)", "b.TIME - a.TIME <= 3 AND COUNT(b) = 2", 9, "COUNT(b) = 2", 3},
		{"SEQ(A+ a, B b)", "b.TIME - FIRST(a.TIME) <= 3", 9, "", 3},
		{"SEQ(A+ a, B+ b)", "b.TIME - FIRST(a.TIME) < 3", 9, "", 2},
		{"SEQ(A a, C b, !C n, C+ c, C d)", "d.TIME - a.TIME <= 3 AND n.TIME > 1", 9, "n.TIME > 1", 3},
		{"SEQ(C+ a, !C m, C d)", "d.TIME - FIRST(a.TIME) <= 3 AND m.TIME - FIRST(a.TIME) <= 2", 9, "m.TIME - FIRST(a.TIME) <= 2", 3},
	} {
		for _, strategy := range []string{"STRICT", "NEXT", "ANY"} {
			p := asked(t, c.branches, c.conditions, strategy, c.window)
			wantPlan(t, c.conditions, rules.Tighten(p), asked(t, c.branches, c.wanted, strategy, c.wantedWindow))
		}
	}
}

// P13.4: what stays.
func TestTightenStays(t *testing.T) {
	for _, c := range [][2]string{
		{"SEQ(A a, B b)", ""},
		{"SEQ(A a, B b)", "b.TIME - a.TIME >= 3 AND b.TIME - a.TIME > 3 AND b.TIME - a.TIME = 3 AND b.TIME - a.TIME != 3"},
		{"SEQ(A a, B b)", "3 >= b.TIME - a.TIME AND b.TIME <= a.TIME + 3 AND 3 < b.TIME - a.TIME AND NOT b.TIME - a.TIME > 3"},
		{"SEQ(A a, B b)", "a.TIME - b.TIME <= 3 AND b.TIME - b.TIME <= 3 AND a.TIME - a.TIME <= 3"},
		{"SEQ(A a, B b)", "b.x - a.TIME <= 3 AND b.TIME - a.x <= 3 AND b.x - a.x <= 3 AND b.TIME + a.TIME <= 3"},
		{"SEQ(A a, B b)", "b.TIME - a.TIME <= 1 + 2 AND b.TIME - a.TIME <= a.x AND b.TIME - a.TIME <= -1 AND b.TIME - a.TIME <= 1 / 0"},
		{"SEQ(A a, B b)", "b.TIME - 3 <= 3 AND 3 - a.TIME <= 3 AND b.TIME <= 3 AND -b.TIME <= 3 AND REAL(b.TIME - a.TIME) <= 3.0"},
		{"SEQ(A a, B b)", "b.TIME - a.TIME - 1 <= 3 AND b.TIME - (a.TIME - 1) <= 3 AND (b.TIME - a.TIME <= 3 OR b.b)"},
		{"SEQ(A+ a, B b)", "b.TIME - LAST(a.TIME) <= 3 AND b.TIME - MIN(a.TIME) <= 3 AND b.TIME - FIRST(a.x) <= 3 AND b.TIME - COUNT(a) <= 3"},
		{"SEQ(A a, B+ b)", "LAST(b.TIME) - a.TIME <= 3 AND FIRST(b.TIME) - a.TIME <= 3"},
		{"SEQ(A a, B b, A c)", "b.TIME - a.TIME <= 3 AND c.TIME - b.TIME <= 3"},
		{"SEQ(A+ a, B+ b, A c)", "b.TIME - FIRST(a.TIME) <= 3 AND c.TIME - FIRST(b.TIME) <= 3"},
		{"SEQ(A a, !B n, A c)", "n.TIME - a.TIME <= 3"},
		// the last part is a Not
		{"SEQ(A a, B b, !A n)", "b.TIME - a.TIME <= 3 AND n.TIME - a.TIME <= 3"},
		{"SEQ(A a, !A n)", "n.TIME - a.TIME <= 3"},
		// one position alone
		{"SEQ(A+ a)", "a.TIME - FIRST(a.TIME) <= 3"},
		{"SEQ(A a)", "a.TIME - a.TIME <= 3"},
	} {
		for _, strategy := range []string{"STRICT", "NEXT", "ANY"} {
			p := asked(t, c[0], c[1], strategy, 9)
			wantPlan(t, c[1], rules.Tighten(p), p)
		}
	}
}

// P13.4: a branch is left out that would have to end ahead of its beginning; the others stay, each with its own window.
func TestTightenBranches(t *testing.T) {
	const branches = "SEQ(A a, B b) | SEQ(A+ c, B d) | SEQ(A e, A f)"
	p := rules.Fold(anyOf(t, branches, "b.TIME - a.TIME < 3 AND d.TIME - FIRST(c.TIME) <= 5 AND d.b"))
	wanted := anyOf(t, branches, "d.b")
	wanted.Branches[0].Window, wanted.Branches[1].Window = 2, 5
	wantPlan(t, "two windows", rules.Tighten(p), wanted)
	for _, below := range []string{"d.TIME - FIRST(c.TIME) < 0", "d.TIME - FIRST(c.TIME) <= -1", "d.TIME - FIRST(c.TIME) < -5", "d.TIME - FIRST(c.TIME) <= 4 AND d.b AND d.TIME - FIRST(c.TIME) <= -9223372036854775807 AND d.TIME - FIRST(c.TIME) <= 3", "d.TIME - FIRST(c.TIME) <= -9223372036854775807 - 1", "d.TIME - FIRST(c.TIME) < -9223372036854775807 - 1"} {
		p := rules.Fold(anyOf(t, branches, below+" AND b.TIME - a.TIME < 3"))
		wanted := without(anyOf(t, branches, ""), 1)
		wanted.Branches[0].Window = 2
		wantPlan(t, below, rules.Tighten(p), wanted)
	}
	wantPlan(t, "none is left", rules.Tighten(anyOf(t, "SEQ(A a, A b)", "b.TIME - a.TIME < 0 AND b.b")), api.Plan{Strategy: api.Any})
	wantPlan(t, "Nots behind", rules.Tighten(anyOf(t, "SEQ(A a, A b, !A n)", "b.TIME - a.TIME < 0")), anyOf(t, "SEQ(A a, A b, !A n)", "b.TIME - a.TIME < 0"))
}

// P13.4: guards by hand.
func TestTightenByHand(t *testing.T) {
	cur := func(attr int) api.Node { return api.Node{Op: api.Cur, Kind: api.Int, Attr: attr} }
	first := func(op, pos, attr int) api.Node { return api.Node{Op: op, Kind: api.Int, Pos: pos, Attr: attr} }
	most := constant(sample.Int(3))
	guard := func(a, b, most api.Node) api.Node {
		return op(api.OpLe, api.Bool, op(api.OpSub, api.Int, a, b), most)
	}
	with := func(form int, n api.Node) api.Plan {
		p := anyOf(t, "SEQ(A a, A b)", "")
		p.Branches[0].Parts[0].Form, p.Branches[0].Parts[1].Guards = form, []api.Node{n}
		return p
	}
	for _, c := range []struct {
		form int
		n    api.Node
		is   bool
	}{
		{api.One, guard(cur(-1), first(api.Of, 0, -1), most), true},
		{api.Many, guard(cur(-1), first(api.First, 0, -1), most), true},
		{api.Many, guard(cur(-1), first(api.Of, 0, -1), most), false},
		{api.One, guard(cur(-1), first(api.First, 0, -1), most), false},
		{api.One, guard(cur(0), first(api.Of, 0, -1), most), false},
		{api.One, guard(cur(-2), first(api.Of, 0, -1), most), false},
		{api.One, guard(cur(-1), first(api.Of, 1, -1), most), false},
		{api.One, guard(cur(-1), first(api.Of, -1, -1), most), false},
		{api.One, guard(cur(-1), first(api.Of, 0, 0), most), false},
		{api.One, guard(first(api.Of, 0, -1), first(api.Of, 0, -1), most), false},
		{api.One, guard(cur(-1), cur(-1), most), false},
		{api.One, guard(cur(-1), first(api.Of, 0, -1), first(api.Of, 0, -1)), false},
		{api.One, guard(cur(-1), first(api.Of, 0, -1), never), false},
		{api.One, guard(cur(-1), first(api.Of, 0, -1), yes), false},
		{api.One, guard(cur(-1), first(api.Of, 0, -1), constant(sample.Real(3))), false},
		{api.One, guard(cur(-1), first(api.Of, 0, -1), api.Node{Op: api.Of, Value: sample.Int(3)}), false},
		{api.One, guard(cur(-1), first(api.Of, 0, -1), api.Node{Op: api.Const, Kind: api.Real, Value: sample.Int(3)}), true},
		{api.One, op(api.OpLe, api.Bool, guard(cur(-1), first(api.Of, 0, -1), most).Args[0], most, most), false},
		{api.One, op(api.OpLe, api.Bool, op(api.OpSub, api.Int, cur(-1), first(api.Of, 0, -1), most), most), false},
		{api.One, op(api.OpLe, api.Bool, op(api.OpSub, api.Int, cur(-1)), most), false},
		{api.One, op(api.OpLe, api.Bool, op(api.OpSub, api.Int), most), false},
		{api.One, op(api.OpLe, api.Bool, guard(cur(-1), first(api.Of, 0, -1), most).Args[0]), false},
		{api.One, op(api.OpLe, api.Bool), false},
		{api.Not, guard(cur(-1), first(api.Of, 0, -1), most), false},
	} {
		p := with(c.form, c.n)
		wanted := p
		if c.is {
			wanted = with(c.form, c.n)
			wanted.Branches[0].Window, wanted.Branches[0].Parts[1].Guards = 3, nil
		}
		wantPlan(t, dump(c.n), rules.Tighten(p), wanted)
	}
	for _, o := range []int{api.OpLe, api.OpLt} {
		least := guard(cur(-1), first(api.Of, 0, -1), constant(sample.Int(math.MinInt64)))
		least.Op = o
		wantPlan(t, "the least Int", rules.Tighten(with(api.One, least)), api.Plan{Strategy: api.Any})
	}
	p := with(api.One, yes)
	p.Branches[0].Parts[1].Closes = []api.Node{guard(cur(-1), first(api.Of, 0, -1), most)}
	p.Branches[0].Window = -5
	wantPlan(t, "Closes stay", rules.Tighten(p), p)
}
