package rules_test

import (
	"math/rand/v2"
	"testing"

	"auspice/api"
	"auspice/plan"
	"auspice/rules"
	"auspice/sample"
)

// P1: all calls end, and none panics, whatever they are given.
func TestAnything(t *testing.T) {
	o := sample.Odd{Pick: rand.New(rand.NewPCG(13, 5)).IntN}
	for range 10000 {
		p := o.Plan()
		before := dump(p)
		for _, c := range calls() {
			q := c.rewrite(p)
			if q.Strategy != p.Strategy || len(q.Keys) != len(p.Keys) || len(q.Branches) > len(p.Branches) || dump(p) != before {
				t.Fatalf("%s of %+v: %+v", c.name, p, q)
			}
		}
		wantPlan(t, "Apply", rules.Apply(p), rules.Once(rules.Tighten(rules.Move(rules.Clean(p)))))
	}
	for _, c := range calls() {
		wantPlan(t, c.name, c.rewrite(api.Plan{}), api.Plan{})
	}
}

// P1: conditions that go round, share, or are deep.
func TestOddConditions(t *testing.T) {
	of := api.Node{Op: api.Of, Kind: api.Bool, Attr: 3}
	for _, n := range []api.Node{
		sample.Circle(api.OpAnd, 1), sample.Circle(api.OpNot, 3), sample.Circle(api.Of, 2), sample.Circle(api.Const, 2),
		sample.Shared(api.OpOr, 300, of), sample.Shared(api.OpOr, 8, of), sample.Far(api.OpNot, 1001, of), sample.Far(api.OpNeg, 1000, of),
	} {
		l := []api.Node{n, n, of, n}
		for _, form := range []int{api.One, api.Many, api.Not} {
			p := anyOf(t, "SEQ(A a, A b, A c)", "")
			for i := range p.Branches[0].Parts {
				p.Branches[0].Parts[i].Form = max(api.One, form-i)
				p.Branches[0].Parts[i].Guards, p.Branches[0].Parts[i].Closes = l, l
			}
			for _, c := range calls() {
				if q := c.rewrite(p); len(q.Branches) > 1 {
					t.Errorf("%s: %d branches", c.name, len(q.Branches))
				}
			}
			if q := rules.Once(p); len(q.Branches[0].Parts[0].Guards) != 2 {
				t.Errorf("Once: there are %d guards", len(q.Branches[0].Parts[0].Guards))
			}
		}
	}
}

// P1: a condition that is far deeper than any query's.
func TestDeepCondition(t *testing.T) {
	p := anyOf(t, "SEQ(A a, A b)", "")
	p.Branches[0].Parts[1].Guards = []api.Node{sample.Far(api.OpNot, 500001, api.Node{Op: api.Of, Kind: api.Bool, Attr: 3})}
	for _, c := range calls() {
		c.rewrite(p)
	}
	wantPlan(t, "far down", rules.Apply(p), anyOf(t, "SEQ(A a, A b)", "NOT a.b"))
}

// shared is a plan that has each list in several places, with spare room.
func shared(t *testing.T) api.Plan {
	t.Helper()
	p := anyOf(t, "SEQ(A a, A+ b, !A n, A c, !A m)", "")
	c := anyOf(t, "SEQ(A a, A b)", "(a.x > 1 OR FALSE AND b.x > 0) AND (a.x = b.x OR FALSE) AND b.TIME - a.TIME <= 3 AND NOT NOT b.b AND (b.b OR TRUE)").Branches[0].Parts[1].Guards
	c = append(append(make([]api.Node, 0, 20), c...), c...)
	parts := append(make([]api.Part, 0, 8), p.Branches[0].Parts...)
	for i := range parts {
		parts[i].Guards, parts[i].Closes = c, c[:5]
	}
	last := append(make([]api.Part, 0, 8), parts[:4]...)
	p.Branches = append(make([]api.Branch, 0, 7), p.Branches[0], p.Branches[0], p.Branches[0])
	p.Branches[0].Parts, p.Branches[1].Parts, p.Branches[2].Parts = parts, parts, last
	p.Keys = append(make([]int, 0, 5), 0, 0, -1)
	return p
}

// lists are all lists of conditions of some plans, those of parts in spare room too.
func lists(plans ...api.Plan) [][]api.Node {
	l := [][]api.Node{}
	for _, p := range plans {
		for _, b := range p.Branches[:cap(p.Branches)] {
			for _, part := range b.Parts[:cap(b.Parts)] {
				l = append(l, part.Guards, part.Closes)
			}
		}
	}
	return l
}

// parts are the addresses of all branches, parts and keys that a plan has room for.
func parts(p api.Plan) []any {
	l := []any{}
	keys := p.Keys[:cap(p.Keys)]
	for i := range keys {
		l = append(l, &keys[i])
	}
	branches := p.Branches[:cap(p.Branches)]
	for i := range branches {
		l = append(l, &branches[i])
		all := branches[i].Parts[:cap(branches[i].Parts)]
		for j := range all {
			l = append(l, &all[j])
		}
	}
	return l
}

// The rule on memory: what is handed in isn't changed, spare room included; an answer shares no list with it, with another answer, or within itself.
func TestMemory(t *testing.T) {
	m := &sample.Maker{Pick: rand.New(rand.NewPCG(13, 6)).IntN}
	plans := []api.Plan{shared(t), {}, {Keys: make([]int, 0, 3), Branches: make([]api.Branch, 0, 3)}}
	for range 200 {
		if p, ok := sample.Planned(m.Query()); ok {
			plans = append(plans, p, rules.Fold(p), rules.Clean(p))
		}
	}
	for _, p := range plans {
		whole := p
		whole.Keys, whole.Branches = p.Keys[:cap(p.Keys)], p.Branches[:cap(p.Branches)]
		before := dump(whole)
		for _, c := range calls() {
			first, second := c.rewrite(p), c.rewrite(p)
			if dump(whole) != before {
				t.Fatalf("%s changes %+v", c.name, p)
			}
			if !plan.Same(first, second) || !sample.Apart(lists(first, second), lists(p)) {
				t.Fatalf("%s of %+v: conditions share memory", c.name, p)
			}
			held := map[any]struct{}{}
			for _, x := range parts(p) {
				held[x] = struct{}{}
			}
			for _, x := range append(parts(first), parts(second)...) {
				if _, ok := held[x]; ok {
					t.Fatalf("%s of %+v: lists share memory", c.name, p)
				}
				held[x] = struct{}{}
			}
		}
	}
}
