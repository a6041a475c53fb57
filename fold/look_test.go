package fold_test

import (
	"math"
	"math/rand/v2"
	"testing"

	"auspice/api"
	"auspice/fold"
	"auspice/sample"
)

// P12.3: what a condition of layer 8 has.
func TestCounts(t *testing.T) {
	for _, c := range []struct {
		text  string
		nodes int
		asks  bool
		last  int
	}{
		{"TRUE", 1, false, -1},
		{"1 / 0 = 1", 5, false, -1},
		{"c.b", 1, true, -1},
		{"a.b", 1, false, 0},
		{"c.TIME > a.TIME", 3, true, 0},
		{"COUNT(b) = 1", 3, false, 1},
		{"FIRST(b.x) < LAST(b.x) + a.x", 5, false, 1},
		{"SUM(b.x) > 0", 3, false, 1},
		{"MIN(b.x) > 0 AND MAX(b.x) < 9", 7, false, 1},
		{"MEAN(b.r) > 0.5 OR NOT c.b", 6, true, 1},
		{"a.x = 1 AND COUNT(b) = 1 AND a.x = 2", 11, false, 1},
	} {
		n := node(t, c.text)
		if nodes, asks, last := fold.Nodes(n), fold.Asks(n), fold.Last(n); nodes != c.nodes || asks != c.asks || last != c.last {
			t.Errorf("%s: Nodes %d, Asks %v, Last %d", c.text, nodes, asks, last)
		}
	}
}

// P12.3: nodes by hand: each Op, odd places, Args of leaves.
func TestCountsByHand(t *testing.T) {
	for o := -2; o < 60; o++ {
		n := api.Node{Op: o, Pos: 5}
		last := -1
		switch o {
		case api.Of, api.Count, api.First, api.Last, api.Sum, api.Min, api.Max, api.Mean:
			last = 5
		}
		for _, n := range []api.Node{n, op(0, 0, n), op(api.OpAnd, api.Bool, api.Node{}, op(api.OpNot, api.Bool, n)), op(api.Const, 0, n, api.Node{Pos: 9})} {
			if fold.Asks(n) != (o == api.Cur) || fold.Last(n) != last {
				t.Errorf("%+v: Asks %v, Last %d", n, fold.Asks(n), fold.Last(n))
			}
		}
	}
	of := func(pos int, args ...api.Node) api.Node { return api.Node{Op: api.Of, Pos: pos, Args: args} }
	for i, c := range []struct {
		n    api.Node
		last int
	}{
		{of(-7), -7},
		{of(math.MinInt), math.MinInt},
		{op(0, 0, of(-7), of(-3), of(-9)), -3},
		{of(math.MaxInt, of(3)), math.MaxInt},
		{of(3, of(2, of(9))), 9},
		{op(0, 0, of(2), of(1)), 2},
	} {
		if got := fold.Last(c.n); got != c.last {
			t.Errorf("%d: Last %d, wanted %d", i, got, c.last)
		}
	}
}

// P12.3: random nodes, counted by recursion.
func TestCountsRandom(t *testing.T) {
	r := rand.New(rand.NewPCG(12, 3))
	var count func(n api.Node) (int, bool, []int)
	count = func(n api.Node) (int, bool, []int) {
		nodes, asks, places := 1, n.Op == api.Cur, []int{}
		if n.Op == api.Of || n.Op >= api.Count && n.Op <= api.Mean {
			places = append(places, n.Pos)
		}
		for _, arg := range n.Args {
			more, also, further := count(arg)
			nodes, asks, places = nodes+more, asks || also, append(places, further...)
		}
		return nodes, asks, places
	}
	for range 20000 {
		n := bush(r, r.IntN(7))
		nodes, asks, places := count(n)
		last := -1
		for i, place := range places {
			if i == 0 || place > last {
				last = place
			}
		}
		if fold.Nodes(n) != nodes || fold.Asks(n) != asks || fold.Last(n) != last {
			t.Fatalf("%+v: Nodes %d, Asks %v, Last %d", n, fold.Nodes(n), fold.Asks(n), fold.Last(n))
		}
	}
}

// changed are copies of a node, each changed at one thing.
func changed(n api.Node) []api.Node {
	l := []api.Node{}
	for _, change := range append(sample.Changes(),
		func(n *api.Node) { n.Args = append([]api.Node{{}}, n.Args...) },
		func(n *api.Node) { n.Args = append(append([]api.Node{}, n.Args...), api.Node{}) },
	) {
		m := n
		change(&m)
		l = append(l, m)
	}
	for i, arg := range n.Args {
		l = append(l, n)
		l[len(l)-1].Args = append(append([]api.Node{}, n.Args[:i]...), n.Args[i+1:]...)
		for _, x := range changed(arg) {
			args := append([]api.Node{}, n.Args...)
			args[i] = x
			l = append(l, n)
			l[len(l)-1].Args = args
		}
	}
	return l
}

// P12.3: a change anywhere is seen; no Args are as none.
func TestSame(t *testing.T) {
	texts := []string{"TRUE", "c.b", "a.b", "a.x = 1", "a.x = c.x", "NOT NOT ISNAN(c.r)", "COUNT(b) > 1 OR FALSE AND MEAN(b.r) < 0.5"}
	for i, text := range texts {
		n := node(t, text)
		if !fold.Same(n, n) || !fold.Same(n, node(t, text)) {
			t.Errorf("%s isn't the same as itself", text)
		}
		for _, m := range changed(n) {
			if fold.Same(n, m) || fold.Same(m, n) {
				t.Errorf("the same: %+v, %+v", n, m)
			}
		}
		for j, other := range texts {
			if fold.Same(n, node(t, other)) != (i == j) {
				t.Errorf("Same of %s, %s", text, other)
			}
		}
	}
	if !fold.Same(api.Node{}, api.Node{Args: []api.Node{}}) || !fold.Same(op(1, 2, api.Node{Args: []api.Node{}}), op(1, 2, api.Node{})) {
		t.Error("an empty list isn't as none")
	}
	if !fold.Same(constant(sample.Real(sample.NaN)), constant(sample.Real(sample.NaN))) || fold.Same(constant(sample.Real(0)), constant(sample.Real(sample.SignBit))) {
		t.Error("Reals are told apart otherwise than by their bits")
	}
	x, y := node(t, "a.x = c.x"), node(t, "c.x = a.x")
	if fold.Same(x, y) {
		t.Error("turned round, and the same")
	}
}

// P1: trees that are far deeper than any query's, that share, that go round.
func TestOddTrees(t *testing.T) {
	yes, b := constant(sample.Bool(1)), api.Node{Op: api.Cur, Kind: api.Bool}
	far := sample.Far(api.OpNot, 1000001, b)
	if got := fold.Node(far); !fold.Same(got, op(api.OpNot, api.Bool, b)) || fold.Nodes(far) != 1000002 || !fold.Asks(far) || fold.Last(far) != -1 {
		t.Errorf("far down: %d nodes are left", fold.Nodes(got))
	}
	far = sample.Far(api.OpNeg, 1000000, b)
	if got := fold.Node(far); !fold.Same(got, far) {
		t.Errorf("far down: %d nodes are left", fold.Nodes(got))
	}
	for _, times := range []int{20, 62, 300} {
		if got := fold.Node(sample.Shared(api.OpAnd, times, yes)); !fold.Same(got, yes) {
			t.Errorf("shared: %d nodes are left", fold.Nodes(got))
		}
		shared := sample.Shared(api.OpAnd, times, b)
		if got := fold.Node(shared); !fold.Same(got, shared) || fold.Nodes(shared) != min(1<<min(times+1, 62)-1, math.MaxInt32) {
			t.Errorf("shared: %d of %d nodes are left", fold.Nodes(got), fold.Nodes(shared))
		}
	}
	for width := 1; width < 5; width++ {
		for o := -1; o < 50; o++ {
			n := sample.Circle(o, width)
			fold.Node(n)
			fold.Nodes(n)
			if fold.Asks(n) != (o == api.Cur) || fold.Last(n) > 0 || !fold.Same(n, n) || fold.Same(n, sample.Circle(o+1, width)) {
				t.Errorf("a circle of %d, %d", o, width)
			}
		}
	}
	o := sample.Odd{Pick: rand.New(rand.NewPCG(12, 4)).IntN}
	for range 20000 {
		n := o.Node(o.Pick(5))
		if got, wanted := fold.Node(n), literal(n); !fold.Same(got, wanted) || fold.Nodes(got) > fold.Nodes(n) {
			t.Fatalf("Node of %+v: %+v, wanted %+v", n, got, wanted)
		}
	}
}

// The rule on memory: what is handed in isn't changed, spare room included; an answer shares no list with it, with another answer, or within itself.
func TestMemory(t *testing.T) {
	twice := node(t, "c.x > 1 + 1")
	for _, n := range []api.Node{
		node(t, "TRUE"),
		node(t, "c.b"),
		node(t, "1 + 2 < a.x"),
		node(t, "NOT NOT (a.x = c.x)"),
		node(t, "TRUE AND (COUNT(b) = 1 OR c.b)"),
		node(t, "(COUNT(b) = 1 OR c.b) AND (FALSE OR NOT (TRUE AND NOT (a.x - a.x = 0)))"),
		op(api.OpAnd, api.Bool, twice, op(api.OpOr, api.Bool, twice, twice), twice),
		sample.Shared(api.OpOr, 10, twice),
		{Op: api.Const, Args: make([]api.Node, 0, 4)},
		op(api.OpAnd, api.Bool, op(api.OpNot, api.Bool, append(make([]api.Node, 0, 9), twice)...), api.Node{Args: make([]api.Node, 0, 3)}),
	} {
		spare := append(make([]api.Node, 0, 5), n, twice, twice)
		args := spare[:1]
		n := op(api.OpNot, api.Bool)
		n.Args = args
		before := dump(n) + dump(spare)
		first, second := fold.Node(n), fold.Node(n)
		fold.Same(n, first)
		fold.Asks(n)
		fold.Last(n)
		fold.Nodes(n)
		if dump(n)+dump(spare) != before {
			t.Errorf("%+v is changed", n)
		}
		if !sample.Apart([][]api.Node{first.Args, second.Args}, [][]api.Node{n.Args}) {
			t.Errorf("%+v: memory is shared", n)
		}
		wanted := dump(second)
		for _, room := range sample.Rooms(first.Args) {
			*room = api.Node{Op: 99}
		}
		if dump(second) != wanted || dump(fold.Node(n)) != wanted {
			t.Errorf("%+v: answers share memory", n)
		}
	}
}
