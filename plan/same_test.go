package plan_test

import (
	"slices"
	"testing"

	"auspice/api"
	"auspice/plan"
	"auspice/sample"
)

// copied is a copy that shares no list; empty ones are others than none.
func copied(p api.Plan) api.Plan {
	p.Keys = append([]int{}, p.Keys...)
	branches := p.Branches
	p.Branches = []api.Branch{}
	for _, b := range branches {
		parts := b.Parts
		b.Parts = []api.Part{}
		for _, part := range parts {
			part.Guards, part.Closes = copiedNodes(part.Guards), copiedNodes(part.Closes)
			b.Parts = append(b.Parts, part)
		}
		p.Branches = append(p.Branches, b)
	}
	return p
}

func copiedNodes(l []api.Node) []api.Node {
	l = append([]api.Node{}, l...)
	for i := range l {
		l[i].Args = copiedNodes(l[i].Args)
	}
	return l
}

// changedNodes are copies of a list, each changed at one thing.
func changedNodes(l []api.Node) [][]api.Node {
	all := [][]api.Node{append(copiedNodes(l), api.Node{}), append([]api.Node{{}}, l...)}
	add := func(change func(l []api.Node) []api.Node) {
		all = append(all, change(copiedNodes(l)))
	}
	for i := range l {
		add(func(l []api.Node) []api.Node { return slices.Delete(l, i, i+1) })
		for _, change := range sample.Changes() {
			add(func(l []api.Node) []api.Node { change(&l[i]); return l })
		}
		for _, args := range changedNodes(l[i].Args) {
			add(func(l []api.Node) []api.Node { l[i].Args = args; return l })
		}
	}
	return all
}

// changed are copies of a plan, each changed at one thing.
func changed(p api.Plan) []api.Plan {
	l := []api.Plan{}
	add := func(change func(x *api.Plan)) {
		x := copied(p)
		change(&x)
		l = append(l, x)
	}
	add(func(x *api.Plan) { x.Strategy-- })
	add(func(x *api.Plan) { x.Keys = append(x.Keys, 0) })
	add(func(x *api.Plan) { x.Branches = append(x.Branches, api.Branch{}) })
	for i := range p.Keys {
		add(func(x *api.Plan) { x.Keys[i]++ })
		add(func(x *api.Plan) { x.Keys = slices.Delete(x.Keys, i, i+1) })
	}
	for i := range p.Branches {
		add(func(x *api.Plan) { x.Branches = slices.Delete(x.Branches, i, i+1) })
		add(func(x *api.Plan) { x.Branches[i].Id++ })
		add(func(x *api.Plan) { x.Branches[i].Window-- })
		add(func(x *api.Plan) { x.Branches[i].Parts = append(x.Branches[i].Parts, api.Part{}) })
		for j, part := range p.Branches[i].Parts {
			add(func(x *api.Plan) { x.Branches[i].Parts = slices.Delete(x.Branches[i].Parts, j, j+1) })
			add(func(x *api.Plan) { x.Branches[i].Parts[j].Form++ })
			add(func(x *api.Plan) { x.Branches[i].Parts[j].Type-- })
			for _, nodes := range changedNodes(part.Guards) {
				add(func(x *api.Plan) { x.Branches[i].Parts[j].Guards = nodes })
			}
			for _, nodes := range changedNodes(part.Closes) {
				add(func(x *api.Plan) { x.Branches[i].Parts[j].Closes = nodes })
			}
		}
	}
	return l
}

// P8.2: a change anywhere is seen; empty lists are as none.
func TestSame(t *testing.T) {
	l := []api.Plan{{}, {Branches: []api.Branch{{}}}, {Branches: []api.Branch{{Parts: []api.Part{{}}}}}}
	for _, text := range []string{
		"PATTERN SEQ(A a) STRATEGY ANY WITHIN 1",
		"PATTERN SEQ(A a, B+ b, !A n) | SEQ(A c) WHERE b.x > 0.5 AND COUNT(b) = a.x AND n.x = a.x + 1 AND NOT c.b AND TRUE STRATEGY NEXT WITHIN 5 PARTITION BY k",
		"PATTERN SEQ(A c) | SEQ(A a, B+ b, !A n) WHERE b.x > 0.5 AND COUNT(b) = a.x AND n.x = a.x + 1 AND NOT c.b AND TRUE STRATEGY NEXT WITHIN 5 PARTITION BY k",
		"PATTERN SEQ(A a, B+ b, !A n) | SEQ(A c) WHERE COUNT(b) = a.x AND n.x = a.x + 1 AND TRUE AND NOT c.b STRATEGY NEXT WITHIN 5 PARTITION BY k",
	} {
		l = append(l, made(t, text))
	}
	for i, a := range l {
		if !plan.Same(a, a) || !plan.Same(a, copied(a)) || !plan.Same(copied(a), a) {
			t.Errorf("not the same as its copy: %v", a)
		}
		for _, x := range changed(a) {
			if plan.Same(a, x) || plan.Same(x, copied(a)) {
				t.Errorf("the same: %+v, %+v", a, x)
			}
		}
		for j, b := range l {
			if plan.Same(a, b) != (i == j) {
				t.Errorf("Same of the plans %d and %d", i, j)
			}
		}
	}
}

// P8.2: items' names and texts are nothing to a plan; a Real's bits are.
func TestSameNames(t *testing.T) {
	a := made(t, "PATTERN SEQ(A a, B+ b) WHERE b.x > 0.50 AND (a.x = 1 AND TRUE) STRATEGY ANY WITHIN 5")
	b := made(t, "PATTERN SEQ ( A x, B + y ) WHERE ((y.x > 0.5)) AND x.x = 1 AND TRUE STRATEGY ANY WITHIN 5")
	if !plan.Same(a, b) {
		t.Errorf("%v, %v", a, b)
	}
	with := func(n api.Node) api.Plan {
		return api.Plan{Branches: []api.Branch{{Parts: []api.Part{{Closes: []api.Node{n}}}}}}
	}
	if plan.Same(with(constant(sample.Real(0))), with(constant(sample.Real(sample.SignBit)))) || plan.Same(with(constant(sample.Real(sample.NaN))), with(constant(sample.Real(sample.NaN|1)))) {
		t.Error("other bits are the same")
	}
	if !plan.Same(with(constant(sample.Real(sample.NaN))), with(constant(sample.Real(sample.NaN)))) {
		t.Error("NaN isn't as NaN")
	}
}

// P1: nodes that go round in a circle, that share, that are very deep.
func TestSameOdd(t *testing.T) {
	far := func(times int) api.Node { return sample.Far(api.OpNeg, times, number(1)) }
	odd := func() []api.Node {
		return []api.Node{sample.Circle(api.OpAdd, 1), sample.Circle(api.OpAdd, 2), sample.Shared(api.OpAdd, 200, number(1)), far(1000000)}
	}
	with := func(n api.Node) api.Plan {
		return api.Plan{Branches: []api.Branch{{Parts: []api.Part{{Guards: []api.Node{n, n}}}}}}
	}
	for i, a := range odd() {
		for j, b := range odd() {
			if plan.Same(with(a), with(b)) != (i == j) {
				t.Errorf("Same of the plans %d and %d", i, j)
			}
		}
	}
	if plan.Same(with(far(1000000)), with(far(1000001))) {
		t.Error("deep plans of other depths are the same")
	}
}

// The rule on memory: what is handed in isn't changed, spare room included; answers share no list with it, nor with one another.
func TestMemory(t *testing.T) {
	s, q := market(), parsed(t, "PATTERN SEQ(A a, B+ b, !A n) | SEQ(A c) WHERE 1 = 2 AND b.x > 0.5 AND COUNT(b) = a.x AND n.x = a.x + 1 AND NOT c.b AND TRUE STRATEGY NEXT WITHIN 5 PARTITION BY k")
	types, all := s.Types, q.Where
	s.Types, q.Where = s.Types[:2], q.Where[:4]
	before := dump(types) + dump(all) + dump(q)
	first, _, _ := plan.Make(s, q)
	second, _, err := plan.Make(s, q)
	third := copied(second)
	if !plan.Same(first, second) || err != api.OK {
		t.Fatalf("two answers: %d", err)
	}
	spoil(first)
	if !plan.Same(second, third) || dump(types)+dump(all)+dump(q) != before {
		t.Error("memory is shared, or arguments are changed")
	}
}

// spoil changes all lists of a plan, spare room included.
func spoil(p api.Plan) {
	for _, b := range p.Branches {
		for _, part := range b.Parts {
			spoilNodes(part.Guards)
			spoilNodes(part.Closes)
		}
		clear(b.Parts[:cap(b.Parts)])
	}
	clear(p.Branches[:cap(p.Branches)])
	clear(p.Keys[:cap(p.Keys)])
}

func spoilNodes(l []api.Node) {
	for _, n := range l {
		spoilNodes(n.Args)
	}
	clear(l[:cap(l)])
}

// The rule on memory: no two lists of one answer are one, those of a condition that stands with every branch too.
func TestMemoryOfOne(t *testing.T) {
	const text = "PATTERN SEQ(A a, A+ b) | SEQ(A c) | SEQ(A+ d) WHERE 1 = 2 AND (TRUE OR NOT 3 < 4) AND a.x = 1 AND COUNT(b) = a.x AND b.x = 7 AND d.b = (1 = 1) STRATEGY ANY WITHIN 5"
	wanted := made(t, text)
	lists := func(p api.Plan) []*[]api.Node {
		l := []*[]api.Node{}
		for _, b := range p.Branches {
			for j := range b.Parts {
				l = append(l, &b.Parts[j].Guards, &b.Parts[j].Closes)
			}
		}
		return l
	}
	for i := range lists(wanted) {
		p := made(t, text)
		spoilNodes(*lists(p)[i])
		*lists(p)[i] = *lists(wanted)[i]
		if !plan.Same(p, wanted) {
			t.Errorf("the list %d shares memory with another one", i)
		}
	}
}

// P1: queries and schemas with anything in them.
func TestMakeOdd(t *testing.T) {
	circle := []api.Expr{{Op: api.OpNot}}
	circle[0].Args = circle
	items := [][]api.Item{{{Form: api.One, Type: "A", Name: "a"}}}
	for _, q := range []api.Query{
		{Branches: items, Strategy: api.Any, Where: circle},
		{Branches: items, Strategy: 9},
		{Branches: slices.Repeat(items, 100000), Strategy: api.Any},
		{Branches: [][]api.Item{nil}, Strategy: api.Any},
		{Branches: items, Strategy: api.Any, Where: make([]api.Expr, 100000)},
		{Branches: items, Strategy: api.Any, Where: []api.Expr{{Op: api.LitReal, N: 1, Scale: 99}}},
		{Branches: items, Strategy: api.Any, Where: []api.Expr{{Op: api.Of}}},
	} {
		for _, s := range []api.Schema{{}, market(), {Types: make([]api.Type, 3)}, {Types: []api.Type{{Name: "A", Fields: []api.Field{{Name: "TIME", Kind: 1}}}}}} {
			if p, at, err := plan.Make(s, q); err == api.OK || at != 0 || dump(p) != dump(api.Plan{}) {
				t.Errorf("%v: %v, %d at %d", q.Strategy, p, err, at)
			}
		}
	}
}
