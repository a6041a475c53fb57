package rules_test

import (
	"testing"

	"auspice/api"
	"auspice/rules"
	"auspice/sample"
)

// P13.1: conditions of all parts are folded, and nothing is left out.
func TestFold(t *testing.T) {
	const branches = "SEQ(A a, B+ b, !A n, A c, !B m) | SEQ(B+ d, C e)"
	for _, strategy := range []string{"STRICT", "NEXT", "ANY"} {
		p := asked(t, branches, "1 + 1 = a.x AND b.x > 3 * 2 AND COUNT(b) > 1 + 1 AND 1 * n.x > 2 - 1 AND (c.x > 0 OR FALSE) AND (m.b OR 1 > 2) AND NOT NOT d.b AND COUNT(d) = 7 % 4", strategy, 9)
		wantPlan(t, strategy, rules.Fold(p), asked(t, branches, "2 = a.x AND b.x > 6 AND COUNT(b) > 2 AND 1 * n.x > 1 AND c.x > 0 AND m.b AND d.b AND COUNT(d) = 3", strategy, 9))
	}
	for _, conditions := range []string{"", "TRUE AND FALSE", "a.x = 1 AND COUNT(b) = 1 AND n.b AND c.x > a.x AND m.x = c.x AND d.b"} {
		p := anyOf(t, branches, conditions)
		wantPlan(t, conditions, rules.Fold(p), p)
	}
	p := anyOf(t, branches, "1 > 2 AND (a.x > 1 OR TRUE) AND NOT (n.b OR TRUE) AND (c.b AND FALSE OR 1 / 0 = 1) AND (COUNT(d) = 1 OR 2 > 1)")
	wanted := anyOf(t, branches, "")
	parts := wanted.Branches[0].Parts
	parts[0].Guards, parts[2].Guards, parts[3].Guards = []api.Node{no, yes}, []api.Node{no}, []api.Node{never}
	wanted.Branches[1].Parts[0].Guards, wanted.Branches[1].Parts[0].Closes = []api.Node{no}, []api.Node{yes}
	wantPlan(t, "Consts stay", rules.Fold(p), wanted)
}

// P13.2: what is true is left out, and the rest folded.
func TestCleanTrue(t *testing.T) {
	const branches = "SEQ(A a, B+ b, !A n, A c, !B m) | SEQ(B+ d, C e)"
	for conditions, wanted := range map[string]string{
		"":            "",
		"TRUE":        "",
		"1 < 2":       "",
		"NOT 1 > 2":   "",
		"a.x = 1 + 1": "a.x = 2",
		"a.b AND (a.x = 1 OR TRUE) AND a.k = 'ann'":                                        "a.b AND a.k = 'ann'",
		"(b.x > 1 OR 2 > 1) AND (COUNT(b) > 1 OR NOT FALSE)":                               "",
		"(n.x > 1 OR 2 > 1) AND (m.x = 1 OR TRUE)":                                         "",
		"n.x > 1 AND (n.b OR TRUE) AND (m.b OR TRUE) AND m.b":                              "n.x > 1 AND m.b",
		"(c.x > a.x OR 1 = 1) AND (d.b OR TRUE) AND (e.TIME > 1 OR TRUE) AND COUNT(d) = 1": "COUNT(d) = 1",
	} {
		wantPlan(t, conditions, rules.Clean(anyOf(t, branches, conditions)), anyOf(t, branches, wanted))
	}
}

// fails are conditions that never hold, put by a Bool of an item.
func fails(of string) []string {
	return []string{"NOT (" + of + " OR TRUE)", "(" + of + " AND FALSE OR 1 / 0 = 1)", "(" + of + " AND 1 > 2 OR FALSE)"}
}

// P13.2: a Not between two positions is left out that forbids nothing; one behind the last position stays, with its conditions.
func TestCleanNots(t *testing.T) {
	for i, fail := range fails("n.b") {
		wantPlan(t, "between", rules.Clean(anyOf(t, "SEQ(A a, !A n, B b)", fail)), anyOf(t, "SEQ(A a, B b)", ""))
		wantPlan(t, "between, and more", rules.Clean(anyOf(t, "SEQ(A a, !A n, B b)", "n.x > 1 AND "+fail+" AND n.x > 2 AND b.x > 1")), anyOf(t, "SEQ(A a, B b)", "b.x > 1"))
		wantPlan(t, "one of several", rules.Clean(anyOf(t, "SEQ(A a, !B m, !A n, !C o, B+ b, !A p, A c, !C q)", fail+" AND (n.b OR TRUE) AND m.x = a.x")), anyOf(t, "SEQ(A a, !B m, !C o, B+ b, !A p, A c, !C q)", "m.x = a.x"))
		behind := anyOf(t, "SEQ(A a, !A n)", "")
		behind.Branches[0].Parts[1].Guards = []api.Node{[]api.Node{no, never, no}[i]}
		wantPlan(t, "behind", rules.Clean(anyOf(t, "SEQ(A a, !A n)", fail)), behind)
		behind = anyOf(t, "SEQ(A a, B b, !C m, !A n, !C o)", "n.x > 1 AND n.b AND n.x = a.x")
		behind.Branches[0].Parts[3].Guards[1] = []api.Node{no, never, no}[i]
		wantPlan(t, "behind, and more", rules.Clean(anyOf(t, "SEQ(A a, B b, !C m, !A n, !C o)", "n.x > 1 AND (n.b OR TRUE) AND "+fail+" AND n.x = a.x")), behind)
	}
	several := anyOf(t, "SEQ(A a, !A n, !A m, !A o, A b) | SEQ(A c, !A d, A e)", "NOT (n.b OR TRUE) AND (o.b AND FALSE OR FALSE) AND NOT (d.b OR TRUE) AND m.b")
	wantPlan(t, "several", rules.Clean(several), anyOf(t, "SEQ(A a, !A m, A b) | SEQ(A c, A e)", "m.b"))
}

// P13.2: a branch that no match can be of is left out; the others keep their Ids.
func TestCleanBranches(t *testing.T) {
	const branches = "SEQ(A a, !A n, A b) | SEQ(A+ c, A d) | SEQ(B e, B+ f)"
	whole := anyOf(t, branches, "")
	for i, items := range []string{"ab", "cd", "ef"} {
		for _, item := range items {
			for _, fail := range fails(string(item) + ".b") {
				wantPlan(t, fail, rules.Clean(anyOf(t, branches, fail)), without(whole, i))
				wantPlan(t, fail+" and more", rules.Clean(anyOf(t, branches, string(item)+".x = 1 AND "+fail)), without(whole, i))
			}
		}
	}
	for i, item := range map[int]string{1: "c", 2: "f"} {
		for _, fail := range fails("COUNT(" + item + ") = 1") {
			wantPlan(t, fail, rules.Clean(anyOf(t, branches, fail)), without(whole, i))
		}
	}
	wantPlan(t, "none is left", rules.Clean(anyOf(t, branches, "1 > 2 AND a.b")), api.Plan{Strategy: api.Any})
	wanted := without(without(anyOf(t, branches, "f.x = 2 AND f.x = 3"), 0), 0)
	wantPlan(t, "one is left", rules.Clean(anyOf(t, branches, "a.x = 1 AND NOT (d.b OR TRUE) AND f.x = 2 AND NOT (a.b OR TRUE) AND f.x = 3")), wanted)
}

// P13.2: nodes by hand: other Values than Bools, other Forms' Closes.
func TestCleanByHand(t *testing.T) {
	with := func(form int, guards, closes []api.Node) api.Plan {
		p := anyOf(t, "SEQ(A a, A b, A c)", "")
		p.Branches[0].Parts[1] = api.Part{Form: form, Guards: guards, Closes: closes}
		return p
	}
	b := api.Node{Op: api.Cur, Kind: api.Bool, Attr: 3}
	for _, other := range []api.Node{no, never, constant(sample.Int(1)), constant(sample.Bool(2)), constant(sample.Real(sample.One)), {Op: api.Const, Kind: api.Bool, Value: sample.Sym(1)}} {
		for _, lists := range [][2][]api.Node{{{other}, nil}, {nil, {other}}, {{yes, b, other}, nil}, {{b}, {b, yes, other, b}}} {
			for _, form := range []int{api.One, api.Many} {
				wantPlan(t, dump(lists), rules.Clean(with(form, lists[0], lists[1])), api.Plan{Strategy: api.Any})
			}
			wantPlan(t, dump(lists), rules.Clean(with(api.Not, lists[0], lists[1])), anyOf(t, "SEQ(A a, A c)", ""))
		}
	}
	for _, form := range []int{api.One, api.Many, api.Not} {
		wantPlan(t, "holds", rules.Clean(with(form, []api.Node{yes, b, yes}, []api.Node{yes, b})), with(form, []api.Node{b}, []api.Node{b}))
	}
	for _, o := range []int{api.Cur, api.Of, api.OpAnd, 0} {
		p := with(api.Many, []api.Node{{Op: o, Value: sample.Bool(1)}}, []api.Node{{Op: o, Value: sample.Bool(0)}})
		wantPlan(t, "no Const", rules.Clean(p), p)
	}
	first := anyOf(t, "SEQ(A a, A b)", "")
	first.Branches[0].Parts[0] = api.Part{Form: api.Not, Guards: []api.Node{no}}
	wantPlan(t, "a Not ahead of all", rules.Clean(first), first)
}
