package rules_test

import (
	"math/rand/v2"
	"slices"
	"strings"
	"testing"

	"auspice/api"
	"auspice/fold"
	"auspice/plan"
	"auspice/rules"
	"auspice/sample"
)

// P13.5: of those that are the same the first one stays, in each list for itself.
func TestOnce(t *testing.T) {
	const branches = "SEQ(A a, B+ b, !A n, A c) | SEQ(A d)"
	for conditions, wanted := range map[string]string{
		"":                    "",
		"a.x > 1 AND a.x > 1": "a.x > 1",
		"a.x > 1 AND a.x > 2 AND a.x > 1 AND a.x > 3 AND a.x > 2 AND a.x > 1":                  "a.x > 1 AND a.x > 2 AND a.x > 3",
		"b.x > 1 AND COUNT(b) > 1 AND b.x > 1 AND COUNT(b) > 1 AND COUNT(b) > 2":               "b.x > 1 AND COUNT(b) > 1 AND COUNT(b) > 2",
		"n.x > a.x AND n.b AND n.b AND n.x > a.x AND c.b AND c.b AND c.b":                      "n.x > a.x AND n.b AND c.b",
		"TRUE AND FALSE AND TRUE AND d.b AND a.b AND d.b AND FALSE":                            "TRUE AND FALSE AND d.b AND a.b",
		"a.x > 1 AND d.x > 1 AND b.x > 1 AND n.x > 1 AND c.x > 1":                              "a.x > 1 AND d.x > 1 AND b.x > 1 AND n.x > 1 AND c.x > 1",
		"a.x > 1 AND 1 < a.x AND a.x >= 1 AND a.x > 1 + 0 AND NOT a.x > 1 AND NOT NOT a.x > 1": "a.x > 1 AND 1 < a.x AND a.x >= 1 AND a.x > 1 + 0 AND NOT a.x > 1 AND NOT NOT a.x > 1",
		"a.r > 1.0 AND a.r > 1.00 AND a.r > 0.0 AND a.r > -0.0 AND a.x = 1 AND (a.x = 1)":      "a.r > 1.0 AND a.r > 0.0 AND a.r > -0.0 AND a.x = 1",
	} {
		for _, strategy := range []string{"STRICT", "NEXT", "ANY"} {
			wantPlan(t, conditions, rules.Once(asked(t, branches, conditions, strategy, 9)), asked(t, branches, wanted, strategy, 9))
		}
	}
	p := anyOf(t, "SEQ(B+ b)", "")
	p.Branches[0].Parts[0].Guards, p.Branches[0].Parts[0].Closes = []api.Node{yes, no, yes}, []api.Node{no, yes, no, never, never}
	wanted := anyOf(t, "SEQ(B+ b)", "")
	wanted.Branches[0].Parts[0].Guards, wanted.Branches[0].Parts[0].Closes = []api.Node{yes, no}, []api.Node{no, yes, never}
	wantPlan(t, "Guards and Closes", rules.Once(p), wanted)
}

// P13.6: the chapter's example, and others in which one call makes work for the next one.
func TestApply(t *testing.T) {
	for _, c := range []struct {
		branches, conditions, wanted string
		window                       int
	}{
		{"SEQ(A a, B b)", "(a.x > 1 OR FALSE AND b.x > 0) AND b.TIME - a.TIME <= 3", "a.x > 1", 3},
		{"SEQ(A a, B b)", "(a.x > 1 OR FALSE AND b.x > 0) AND b.TIME - a.TIME < 1 + 3 AND a.x > 1", "a.x > 1", 3},
		{"SEQ(A a, !B n, B+ b)", "NOT (n.b OR TRUE) AND NOT NOT (b.TIME - a.TIME < 3) AND (a.x > 1 OR FALSE AND COUNT(b) > 0) AND (a.x > 1 OR FALSE AND b.b)", "a.x > 1", 2},
	} {
		branches := strings.ReplaceAll(c.branches, "!B n, ", "")
		for _, strategy := range []string{"STRICT", "ANY"} {
			wantPlan(t, c.conditions, rules.Apply(asked(t, c.branches, c.conditions, strategy, 9)), asked(t, branches, c.wanted, strategy, c.window))
		}
	}
	p := rules.Apply(asked(t, "SEQ(A a, B b)", "(a.x > 1 OR FALSE AND b.x > 0) AND b.TIME - a.TIME <= 3", "NEXT", 9))
	parts := p.Branches[0].Parts
	if p.Branches[0].Window != 3 || len(parts[0].Guards) != 0 || len(parts[1].Guards) != 1 || fold.Asks(parts[1].Guards[0]) || fold.Last(parts[1].Guards[0]) != 0 {
		t.Errorf("under NEXT: %+v", p)
	}
}

// P13.6: queries of all sorts; and what is applied to what has been applied.
func TestApplyRandom(t *testing.T) {
	m := &sample.Maker{Pick: rand.New(rand.NewPCG(13, 2)).IntN}
	for range 10000 {
		p, ok := sample.Planned(m.Query())
		if !ok {
			continue
		}
		for range 2 {
			q := rules.Apply(p)
			wantPlan(t, "Apply", q, rules.Once(rules.Tighten(rules.Move(rules.Clean(p)))))
			wantPlan(t, "Clean", rules.Clean(p), rules.Clean(rules.Fold(p)))
			p = q
		}
	}
}

// P13.1 to P13.6: what isn't named stays: Strategy, Keys, Ids in their order, windows, Forms and Types in theirs.
func TestStays(t *testing.T) {
	m := &sample.Maker{Pick: rand.New(rand.NewPCG(13, 3)).IntN}
	for range 10000 {
		p, ok := sample.Planned(m.Query())
		if !ok {
			continue
		}
		for i := range p.Branches {
			p.Branches[i].Id += 3 * m.Pick(3) // so that an Id isn't the branch's place
		}
		for _, c := range calls() {
			q := c.rewrite(p)
			if q.Strategy != p.Strategy || !slices.Equal(q.Keys, p.Keys) {
				t.Fatalf("%s of %+v: %+v", c.name, p, q)
			}
			rest := p.Branches
			for _, b := range q.Branches {
				at := slices.IndexFunc(rest, func(a api.Branch) bool { return a.Id == b.Id && begins(a, b) })
				if at < 0 || b.Window > rest[at].Window || b.Window != rest[at].Window && c.name != "Tighten" && c.name != "Apply" {
					t.Fatalf("%s of %+v: %+v", c.name, p, q)
				}
				rest = rest[at+1:]
			}
			leavesOut := c.name == "Clean" || c.name == "Tighten" || c.name == "Apply"
			if len(q.Branches) != len(p.Branches) && !leavesOut {
				t.Fatalf("%s of %+v: %+v", c.name, p, q)
			}
		}
	}
}

// begins tells whether one branch's parts are another's, Nots left out aside.
func begins(whole, b api.Branch) bool {
	rest := b.Parts
	for _, part := range whole.Parts {
		if len(rest) > 0 && rest[0].Form == part.Form && rest[0].Type == part.Type {
			rest = rest[1:]
		} else if part.Form != api.Not {
			return false
		}
	}
	return len(rest) == 0
}

// stand is a plan, and what its matches are over some scripts.
type stand struct {
	text    string
	plan    api.Plan
	scripts [][]api.Event
	wanted  []string
}

// then is what a call makes of the plan; the matches are held against those that were. It tells whether the plan is another, and of how many scripts there are matches.
func (s stand) then(t *testing.T, c call) (stand, bool, int) {
	t.Helper()
	next := stand{s.text + ", " + c.name, c.rewrite(s.plan), s.scripts, s.wanted}
	if plan.Same(s.plan, next.plan) {
		return next, false, 0
	}
	found := 0
	for i, script := range s.scripts {
		if got := told(t, next.plan, script); got != s.wanted[i] {
			t.Fatalf("%s, over %v: %s, wanted %s", next.text, script, got, s.wanted[i])
		}
		if s.wanted[i] != "" {
			found++
		}
	}
	return next, true, found
}

// P13.7: queries of all sorts, rewritten by one call, by two and by three, over some scripts.
func TestMatchesStay(t *testing.T) {
	r := rand.New(rand.NewPCG(13, 4))
	m := &sample.Maker{Pick: r.IntN}
	changed, found := map[string]int{}, map[string]int{}
	for range 5000 {
		s := stand{text: m.Query()}
		p, ok := sample.Planned(s.text)
		if !ok {
			continue
		}
		s.plan = p
		for range 3 {
			script := m.Script(8)
			s.scripts, s.wanted = append(s.scripts, script), append(s.wanted, told(t, p, script))
		}
		for _, first := range calls() {
			once, _, _ := s.then(t, first)
			for _, second := range calls() {
				twice, is, matches := once.then(t, second)
				if is {
					changed[second.name]++
					found[second.name] += matches
				}
				twice.then(t, calls()[r.IntN(6)])
			}
		}
	}
	for _, c := range calls() {
		if changed[c.name] < 500 || found[c.name] < 500 {
			t.Errorf("%s changes %d plans; there are matches of %d", c.name, changed[c.name], found[c.name])
		}
	}
}
