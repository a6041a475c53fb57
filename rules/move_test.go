package rules_test

import (
	"testing"

	"auspice/api"
	"auspice/rules"
)

// P13.3: what is folded, so that it looks at positions ahead alone, goes to the last one of these.
func TestMove(t *testing.T) {
	for _, c := range []struct{ branches, conditions, wanted string }{
		{"SEQ(A a, B b)", "(a.x > 1 OR FALSE AND b.x > 0)", "a.x > 1"},
		{"SEQ(A a, B b)", "(a.b OR FALSE AND b.b)", "a.b"},
		{"SEQ(A a, B b)", "(a.TIME > 1 OR FALSE AND b.b)", "a.TIME > 1"},
		{"SEQ(A a, B b)", "b.x > 2 AND (a.x > 1 OR FALSE AND b.x > 0) AND a.x > 3 AND b.x > 4", "a.x > 3 AND a.x > 1 AND b.x > 2 AND b.x > 4"},
		// of a Many's Guards, of its Closes
		{"SEQ(A a, B+ b)", "(a.x > 1 OR FALSE AND b.x > 0)", "a.x > 1"},
		{"SEQ(A a, B+ b)", "(a.x > 1 OR FALSE AND COUNT(b) > 0)", "a.x > 1"},
		{"SEQ(A a, B+ b)", "COUNT(b) = 1 AND (a.x > 1 OR FALSE AND COUNT(b) > 0) AND b.b AND (a.x > 2 OR FALSE AND b.b) AND COUNT(b) = 2 AND b.x = 1", "a.x > 2 AND a.x > 1 AND b.b AND b.x = 1 AND COUNT(b) = 1 AND COUNT(b) = 2"},
		// to a Many's Closes
		{"SEQ(B+ b, A a)", "(COUNT(b) > 1 OR FALSE AND a.b)", "COUNT(b) > 1"},
		{"SEQ(B+ b, A+ a)", "(FIRST(b.x) > 1 OR FALSE AND a.b) AND LAST(b.x) > 2 AND b.x > 3 AND (SUM(b.x) > 4 OR FALSE AND COUNT(a) = 1) AND (MEAN(b.r) > 5.0 OR FALSE AND a.b)", "b.x > 3 AND LAST(b.x) > 2 AND FIRST(b.x) > 1 AND MEAN(b.r) > 5.0 AND SUM(b.x) > 4"},
		// the last one of several; an Of of that position alone is asked
		{"SEQ(A a, A b, A c, A d)", "(a.x > b.x OR FALSE AND d.b)", "a.x > b.x"},
		{"SEQ(A a, A b, A c, A d)", "(b.x + a.x > a.x * b.x OR FALSE AND d.b)", "b.x + a.x > a.x * b.x"},
		{"SEQ(A a, A b, A c, A d)", "(c.x > b.x OR FALSE AND d.b) AND (a.x > 1 OR FALSE AND c.b) AND (b.x > 1 OR FALSE AND c.b)", "a.x > 1 AND b.x > 1 AND c.x > b.x"},
		{"SEQ(A a, A+ b, A c, A d)", "(a.x > COUNT(b) OR FALSE AND d.b)", "a.x > COUNT(b)"},
		{"SEQ(A a, A+ b, A c, A d)", "(c.x > COUNT(b) + a.x OR FALSE AND d.b)", "c.x > COUNT(b) + a.x"},
		{"SEQ(A+ a, A b, A+ c)", "(b.x > LAST(a.x) OR FALSE AND c.b) AND (MIN(a.x) > b.x OR FALSE AND MAX(c.x) > 1)", "b.x > LAST(a.x) AND MIN(a.x) > b.x"},
		// position by position, Guards ahead of Closes
		{"SEQ(A a, B+ b, B+ c, A d)", "(COUNT(b) = 6 OR FALSE AND d.b) AND (COUNT(b) = 4 OR FALSE AND COUNT(c) = 1) AND (COUNT(b) = 2 OR FALSE AND c.b) AND (COUNT(b) = 5 OR FALSE AND COUNT(c) = 1) AND (COUNT(b) = 3 OR FALSE AND c.b) AND COUNT(b) = 1", "COUNT(b) = 1 AND COUNT(b) = 2 AND COUNT(b) = 3 AND COUNT(b) = 4 AND COUNT(b) = 5 AND COUNT(b) = 6"},
		{"SEQ(A a, B b, B+ c, A d)", "(a.x = 5 OR FALSE AND d.b) AND (a.x = 4 OR FALSE AND COUNT(c) = 1) AND (a.x = 3 OR FALSE AND c.b) AND (a.x = 2 OR FALSE AND b.b) AND a.x = 1", "a.x = 1 AND a.x = 2 AND a.x = 3 AND a.x = 4 AND a.x = 5"},
		// Nots have no position
		{"SEQ(A a, !B n, A b, !C m, !B o, A+ c, A d, !A p)", "(COUNT(c) > 1 OR FALSE AND d.b) AND (a.x > 1 OR FALSE AND c.b) AND (b.x > 1 OR FALSE AND d.b) AND n.b AND o.x = a.x", "a.x > 1 AND b.x > 1 AND COUNT(c) > 1 AND n.b AND o.x = a.x"},
		// each branch for itself
		{"SEQ(A a, B b) | SEQ(A c) | SEQ(B+ d, A e)", "(COUNT(d) > 1 OR FALSE AND e.b) AND (a.x > 1 OR FALSE AND b.b) AND c.b", "a.x > 1 AND c.b AND COUNT(d) > 1"},
	} {
		for _, strategy := range []string{"STRICT", "ANY"} {
			p := rules.Fold(asked(t, c.branches, c.conditions, strategy, 9))
			wantPlan(t, c.conditions, rules.Move(p), asked(t, c.branches, c.wanted, strategy, 9))
		}
		p := rules.Fold(asked(t, c.branches, c.conditions, "NEXT", 9))
		wantPlan(t, "NEXT: "+c.conditions, rules.Move(p), p)
	}
}

// P13.3: what asks, what looks at its own position or at none, Nots' conditions, and what isn't folded stay.
func TestMoveStays(t *testing.T) {
	const branches = "SEQ(A a, B+ b, !A n, A c, !B m)"
	for _, conditions := range []string{
		"",
		"a.x = 1 AND b.x > a.x AND COUNT(b) > a.x AND c.x = a.x AND c.b",
		"(COUNT(b) < 2 OR FALSE AND b.b) AND (FIRST(b.x) > a.x OR FALSE AND b.b)",
		"(LAST(b.x) > a.x OR FALSE AND COUNT(b) = 1)",
		"(a.x > 1 OR FALSE AND n.b) AND (COUNT(b) = 1 OR FALSE AND m.b) AND (c.x = 1 OR FALSE AND m.b)",
		"1 > 2 AND TRUE AND NOT (b.b OR TRUE) AND NOT (COUNT(b) = 1 OR TRUE) AND (c.b OR TRUE)",
	} {
		p := rules.Fold(anyOf(t, branches, conditions))
		wantPlan(t, conditions, rules.Move(p), p)
	}
	p := anyOf(t, branches, "(a.x > 1 OR FALSE AND b.x > 0) AND (a.x > 1 OR TRUE AND NOT FALSE OR c.b)")
	wantPlan(t, "not folded", rules.Move(p), p)
}

// P13.3: plans by hand: a Close that asks goes too; what is moved isn't looked at again; other Strategies are none's.
func TestMoveByHand(t *testing.T) {
	of := func(pos int) api.Node { return api.Node{Op: api.Of, Kind: api.Bool, Pos: pos, Attr: 3} }
	cur := api.Node{Op: api.Cur, Kind: api.Bool, Attr: 3}
	first := api.Node{Op: api.First, Kind: api.Bool, Pos: 0, Attr: 3}
	both := op(api.OpAnd, api.Bool, of(0), cur)
	for _, strategy := range []int{api.Strict, api.Any, 0, 7, -1} {
		p := anyOf(t, "SEQ(A a, A+ b, A c)", "")
		p.Strategy = strategy
		wanted := anyOf(t, "SEQ(A a, A+ b, A c)", "")
		wanted.Strategy = strategy
		parts := p.Branches[0].Parts
		parts[0].Guards, parts[0].Closes = []api.Node{of(-1), first}, []api.Node{of(0)}
		parts[1].Guards, parts[1].Closes = []api.Node{both, of(0)}, []api.Node{both, op(api.OpOr, api.Bool, of(0), of(1))}
		parts[2].Guards, parts[2].Closes = []api.Node{of(1), of(2), of(3), first}, []api.Node{of(0), both}
		parts = wanted.Branches[0].Parts
		parts[0].Guards = []api.Node{of(-1), first, cur, op(api.OpAnd, api.Bool, cur, cur), first, cur, op(api.OpAnd, api.Bool, cur, cur)}
		parts[0].Closes = []api.Node{of(0)}
		parts[1].Guards, parts[1].Closes = []api.Node{both}, []api.Node{op(api.OpOr, api.Bool, of(0), of(1)), of(1)}
		parts[2].Guards = []api.Node{of(2), of(3)}
		wantPlan(t, "by hand", rules.Move(p), wanted)
	}
	wantPlan(t, "no branch", rules.Move(api.Plan{Strategy: api.Any}), api.Plan{Strategy: api.Any})
	wantPlan(t, "no part", rules.Move(api.Plan{Branches: []api.Branch{{Id: 3, Window: 7}}}), api.Plan{Branches: []api.Branch{{Id: 3, Window: 7}}})
}
