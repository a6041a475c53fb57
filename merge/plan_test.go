package merge_test

import (
	"math/rand/v2"
	"testing"

	"auspice/api"
	"auspice/auto"
	"auspice/merge"
	"auspice/plan"
	"auspice/rules"
	"auspice/sample"
)

// wantPlan merges what is built of a plan, and makes a plan of it again. How many states are left out.
func wantPlan(t *testing.T, what string, p api.Plan) int {
	t.Helper()
	a := built(t, p)
	merged := merge.Merge(a)
	if got := auto.Plan(merged); !plan.Same(got, p) {
		t.Fatalf("%s:\n%+v, wanted\n%+v", what, got, p)
	}
	return len(a.States) - len(merged.States)
}

// P16.4: the plan of what is merged is the plan; how many states are alike.
func TestPlan(t *testing.T) {
	for _, c := range []struct {
		branches string
		alike    int
	}{
		{"SEQ(A a)", 0},
		{"SEQ(A a) | SEQ(A b)", 1},
		{"SEQ(A a) | SEQ(A+ b)", 0},
		{"SEQ(A a) | SEQ(B b)", 0},
		{"SEQ(A a, A b, A c)", 0},
		{"SEQ(A a, B b) | SEQ(A c, C d)", 1},
		{"SEQ(A a, B+ b, C c) | SEQ(A d, B+ e, C f)", 3},
		{"SEQ(A a, B+ b, C c) | SEQ(A d, B+ e) | SEQ(A f) | SEQ(A g, B+ h, C i, C j)", 6},
		{"SEQ(A a, C c) | SEQ(B b, C d)", 0},
		{"SEQ(A a, !C n, B b) | SEQ(A c, !C m, B d)", 2},
		{"SEQ(A a, !C n, B b) | SEQ(A c, B d)", 1},
		{"SEQ(A a, !C n, !B m, B b) | SEQ(A c, !B o, !C p, B d)", 1},
		{"SEQ(A a, B b, !C n) | SEQ(A c, B d) | SEQ(A e, B f, !B m)", 4},
		{"SEQ(A a) | SEQ(B b) | SEQ(A c) | SEQ(B d)", 2},
		{"SEQ(A a, A b) | SEQ(A c, A d) WHERE a.x = 1 AND c.x = 1", 2},
		{"SEQ(A a, A b) | SEQ(A c, A d) WHERE a.x = 1 AND c.x = 2", 0},
		{"SEQ(A a, A b) | SEQ(A c, A d) WHERE b.x = a.x AND d.x = c.x", 2},
		{"SEQ(A a, A b) | SEQ(A c, A d) WHERE b.x = a.x AND d.x = d.x", 1},
		{"SEQ(A+ a, B b, C e) | SEQ(A+ c, B d, C f) WHERE COUNT(a) = 1 AND COUNT(c) = 1", 3},
		{"SEQ(A+ a, B b, C e) | SEQ(A+ c, B d, C f) WHERE COUNT(a) = 1 AND COUNT(c) = 2", 1},
		{"SEQ(A+ a) | SEQ(A+ c) WHERE COUNT(a) = 1 AND COUNT(c) = 2", 1}, // what is asked at the end is the End's
		{"SEQ(A a, A b) | SEQ(A c, A d) WHERE 1 = 2", 2},
	} {
		for _, rest := range []string{" STRATEGY STRICT WITHIN 9", " STRATEGY NEXT WITHIN 0", " STRATEGY ANY WITHIN 1152921504606846976"} {
			text := "PATTERN " + c.branches + rest
			if got := wantPlan(t, text, made(t, text)); got != c.alike {
				t.Errorf("%s: %d are alike, wanted %d", text, got, c.alike)
			}
		}
	}
}

// P16.4: of queries of all sorts; of rewritten plans, whose windows differ, too.
func TestPlanRandom(t *testing.T) {
	m := &sample.Maker{Pick: rand.New(rand.NewPCG(16, 7)).IntN}
	alike, rewritten := 0, 0
	for i := range 20000 {
		text := alikeQuery(m)
		if i%4 == 0 {
			text = m.Query()
		}
		p, ok := sample.Planned(text)
		if !ok {
			continue
		}
		alike += min(1, wantPlan(t, text, p))
		rewritten += min(1, wantPlan(t, text+", rewritten", rules.Apply(p)))
	}
	if alike < 5000 || rewritten < 5000 {
		t.Errorf("%d and %d have states that are alike", alike, rewritten)
	}
}

// P16.4: the greatest query, each of whose branches is as the first one.
func TestPlanOfGreatest(t *testing.T) {
	text := "PATTERN SEQ(A a, B+ b, A c, B+ d, A e, B f, C g, C h) | SEQ(A a1, B+ b1, A c1, B+ d1, A e1, B f1, C g1, C h1) | SEQ(A a2, B+ b2, A c2, B+ d2, A e2, B f2, C g2, C h2) | SEQ(A a3, B+ b3, A c3, B+ d3, A e3, B f3, C g3, C+ h3) STRATEGY ANY WITHIN 9"
	if got := wantPlan(t, text, made(t, text)); got != 8+8+7 {
		t.Errorf("%d are alike", got)
	}
}
