package prove_test

import (
	"fmt"
	"math"
	"math/rand/v2"
	"slices"
	"testing"

	"auspice/api"
	"auspice/nodes"
	"auspice/prove"
	"auspice/sample"
	"auspice/tree"
)

func wantChain(t *testing.T, l []api.Node, wanted api.Node) {
	t.Helper()
	if got, ok := prove.Chain(l); !ok || dump(got) != dump(wanted) {
		t.Fatalf("%+v: %v, %+v, wanted %+v", l, ok, got, wanted)
	}
}

// P25.2: of none, of one, of more.
func TestChain(t *testing.T) {
	for _, l := range [][]api.Node{nil, {}} {
		if got, ok := prove.Chain(l); ok || !none(got) {
			t.Errorf("of none: %v, %+v", ok, got)
		}
	}
	and := func(args ...api.Node) api.Node { return of(api.OpAnd, api.Bool, args...) }
	a, b := of(api.OpLt, api.Bool, leaf(api.Cur, api.Int, 0, 1), constant(sample.Int(3))), leaf(api.Of, api.Bool, 1, 2)
	c, odd := and(a, b), api.Node{Op: 99, Kind: -3, Pos: 7, Value: sample.Int(4)}
	for _, n := range []api.Node{a, b, c, odd, {}} {
		wantChain(t, []api.Node{n}, n)
	}
	wantChain(t, []api.Node{a, b}, and(a, b))
	wantChain(t, []api.Node{b, a}, and(b, a))
	wantChain(t, []api.Node{a, b, c}, and(and(a, b), c))
	wantChain(t, []api.Node{c, odd, a, a, {}}, and(and(and(and(c, odd), a), a), api.Node{}))
}

// chained is what the chapter says, word by word.
func chained(l []api.Node) api.Node {
	last := len(l) - 1
	if last == 0 {
		return l[0]
	}
	return of(api.OpAnd, api.Bool, chained(l[:last]), l[last])
}

// P25.2, and the rules on memory: lists of any nodes, with spare room, stay as they are, and share none with what is answered.
func TestChainRandom(t *testing.T) {
	o := sample.Odd{Pick: rand.New(rand.NewPCG(25, 3)).IntN}
	for range 5000 {
		l := []api.Node{o.Node(o.Pick(5))}
		for range o.Pick(6) {
			l = append(l, o.Node(o.Pick(4)), l[o.Pick(len(l))])
		}
		l = append(l, o.Node(2))[:len(l)]
		before := dump(l[:cap(l)])
		wantChain(t, l, chained(l))
		one, _ := prove.Chain(l)
		other, _ := prove.Chain(l)
		if dump(l[:cap(l)]) != before || !sample.Apart([][]api.Node{one.Args, other.Args}, [][]api.Node{l}) {
			t.Fatalf("%s: changed, or shared", before)
		}
	}
}

// P1: nodes that are deep, share lists or are within themselves, and very many.
func TestChainOdd(t *testing.T) {
	cur := leaf(api.Cur, api.Bool, 0, 3)
	for _, l := range [][]api.Node{
		{sample.Far(api.OpNot, 300000, cur), cur},
		{cur, sample.Shared(api.OpOr, 12, cur), cur},
		slices.Repeat([]api.Node{sample.Shared(api.OpOr, 18, cur)}, 300),
		{sample.Shared(api.OpOr, 400, cur), cur, sample.Shared(api.OpAnd, 200, cur)},
		slices.Repeat([]api.Node{cur}, 300000),
	} {
		n, ok := prove.Chain(l)
		if !ok || !nodes.Same(n, chainedFrom(l)) {
			t.Errorf("%d nodes: %v, another one", len(l), ok)
		}
		met := map[*api.Node]struct{}{}
		for i := range l {
			for x := range tree.Upward(&l[i], nodes.Args) {
				met[x] = struct{}{}
			}
		}
		for x := range tree.Upward(&n, nodes.Args) {
			if _, ok := met[x]; ok {
				t.Fatalf("%d nodes: shared", len(l))
			}
		}
	}
	for width := 1; width < 4; width++ {
		if n, ok := prove.Chain([]api.Node{cur, sample.Circle(api.OpAnd, width)}); !ok || n.Op != api.OpAnd || len(n.Args) != 2 || len(n.Args[1].Args) != width {
			t.Errorf("a circle of %d: %v, %+v", width, ok, n)
		}
	}
}

// chainedFrom is chained, of lists of any length.
func chainedFrom(l []api.Node) api.Node {
	n := l[0]
	for _, next := range l[1:] {
		n = of(api.OpAnd, api.Bool, n, next)
	}
	return n
}

// alikeByWords is what the chapter says of two nodes.
func alikeByWords(a, b api.Node) bool {
	if a.Op != b.Op || len(a.Args) != len(b.Args) {
		return false
	}
	for i := range a.Args {
		if !alikeByWords(a.Args[i], b.Args[i]) {
			return false
		}
	}
	switch {
	case a.Op == api.Const:
		return a.Value == b.Value
	case isOperator(a.Op) || len(a.Args) > 0:
		return true
	}
	return a.Kind == b.Kind && a.Pos == b.Pos && a.Attr == b.Attr
}

// wantAlike asks it both ways.
func wantAlike(t *testing.T, what string, a, b api.Node, wanted bool) {
	t.Helper()
	before := dump(a) + dump(b)
	if prove.Alike(a, b) != wanted || prove.Alike(b, a) != wanted {
		t.Fatalf("%s: not %v: %+v, %+v", what, wanted, a, b)
	}
	if dump(a)+dump(b) != before {
		t.Fatalf("%s: %s changed", what, before)
	}
}

// lookedAt are the names of what is looked at of a node: of a Const its Value, of an operator, and of one that has Args, its Op alone, of other leaves, whatever their Op, all but the Value.
func lookedAt(op, args int) []string {
	switch {
	case op == api.Const:
		return []string{"Op", "Value.Kind", "Value.Bits"}
	case isOperator(op) || args > 0:
		return []string{"Op"}
	}
	return []string{"Op", "Kind", "Pos", "Attr"}
}

// P25.2: what is looked at of each node, and what isn't: of those that there are, and of those made by hand, with any Op and with Args or without.
func TestAlike(t *testing.T) {
	names := []string{"Op", "Kind", "Value.Kind", "Value.Bits", "Pos", "Attr"} // of sample's Changes
	args := []api.Node{constant(sample.Int(1)), leaf(api.Of, api.Int, 1, 2), leaf(api.Sum, 0, 0, 2)}
	deep := func(n api.Node) api.Node {
		return of(api.OpOr, api.Bool, constant(sample.Bool(0)), of(api.OpNot, api.Bool, n))
	}
	ops := []int{math.MinInt, -1, 99, math.MaxInt - 1}
	for op := range 60 {
		ops = append(ops, op)
	}
	for _, op := range ops {
		for count := range len(args) + 1 {
			n, seen := api.Node{Op: op, Kind: api.Int, Value: sample.Int(5), Pos: 2, Attr: 3, Args: args[:count]}, lookedAt(op, count)
			for i, change := range sample.Changes() {
				m := n
				change(&m)
				what, wanted := fmt.Sprintf("%s of Op %d with %d Args", names[i], op, count), !slices.Contains(seen, names[i])
				wantAlike(t, what, n, m, wanted)
				wantAlike(t, what+", below", deep(n), deep(m), wanted)
				wantAlike(t, what+", below one of its Op", of(op, 0, n), of(op, 0, m), wanted)
			}
		}
	}
}

// P25.2: a node that has Args is no leaf, whatever its Op is: its Kind, Pos and Attr aren't looked at; its Args are.
func TestAlikeNoLeaf(t *testing.T) {
	cur, last := leaf(api.Cur, 0, 0, 3), leaf(api.Last, 0, 0, 2)
	three := api.Node{Op: api.Const, Value: sample.Int(3)}
	for _, op := range []int{math.MaxInt, math.MinInt, 0, -1, 99, api.LitInt, api.Attr, api.Cur, api.Of, api.Count, api.Mean, api.InsTell} {
		for _, args := range [][]api.Node{{cur}, {last, three}, {of(op, 0, cur), last, cur}} {
			plain, other := of(op, 0, args...), of(op, 7, args...)
			other.Pos, other.Attr, other.Value = -4, math.MaxInt, sample.Bool(1)
			wantAlike(t, "no leaf", plain, other, true)
			wantAlike(t, "no leaf, below", of(op, 0, last, plain), of(op, 0, last, other), true)
			other.Args = nil
			wantAlike(t, "without Args", plain, other, false)
			wantAlike(t, "a leaf", of(op, 0), other, false)
			other.Args = slices.Clone(args)
			other.Args[len(args)-1].Op++
			wantAlike(t, "another one below", plain, other, false)
			other.Args = slices.Clone(args)
			other.Args[0] = leaf(args[0].Op, 0, 0, 9)
			wantAlike(t, "a leaf with another Attr below", plain, other, false)
		}
	}
	wantAlike(t, "Consts with Args", api.Node{Op: api.Const, Kind: 1, Pos: 2, Attr: 3, Args: []api.Node{cur}}, api.Node{Op: api.Const, Args: []api.Node{cur}}, true)
	wantAlike(t, "Consts with Args, of other Values", api.Node{Op: api.Const, Args: []api.Node{cur}}, api.Node{Op: api.Const, Value: sample.Int(0), Args: []api.Node{cur}}, false)
}

// P25.2: as many Args, in their order.
func TestAlikeArgs(t *testing.T) {
	a, b := leaf(api.Of, api.Int, 0, 1), leaf(api.Of, api.Int, 1, 1)
	sum := func(args ...api.Node) api.Node { return of(api.OpAdd, api.Int, args...) }
	wantAlike(t, "the same", sum(a, b), sum(a, b), true)
	wantAlike(t, "other kinds", sum(a, b), of(api.OpAdd, api.Real, a, b), true)
	wantAlike(t, "another operator", sum(a, b), of(api.OpSub, api.Int, a, b), false)
	wantAlike(t, "turned round", sum(a, b), sum(b, a), false)
	wantAlike(t, "fewer", sum(a, b), sum(a), false)
	wantAlike(t, "none", sum(a), sum(), false)
	wantAlike(t, "more", sum(a, b), sum(a, b, b), false)
	wantAlike(t, "empty and nil", sum(), sum([]api.Node{}...), true)
	wantAlike(t, "other brackets", sum(sum(a, b), a), sum(a, sum(b, a)), false)
	wantAlike(t, "noughts", constant(sample.Real(0)), constant(sample.Real(sample.SignBit)), false)
	wantAlike(t, "NaN", constant(sample.Real(sample.NaN)), constant(sample.Real(sample.NaN)), true)
	wantAlike(t, "an Int and a Bool", constant(sample.Int(1)), constant(sample.Bool(1)), false)
	wantAlike(t, "a Const's Kind", api.Node{Op: api.Const, Kind: api.Bool}, api.Node{Op: api.Const}, true)
	wantAlike(t, "nothing", api.Node{}, api.Node{}, true)
}

// P25.2: of nodes of all sorts.
func TestAlikeRandom(t *testing.T) {
	o := sample.Odd{Pick: rand.New(rand.NewPCG(25, 4)).IntN}
	met := map[bool]int{}
	for range 30000 {
		n := o.Node(o.Pick(5))
		m := nodes.Copied(n)
		for range o.Pick(3) {
			all := slices.Collect(tree.Upward(&m, nodes.Args))
			changes := sample.Changes()
			changes[o.Pick(len(changes))](all[o.Pick(len(all))])
		}
		if o.Pick(9) == 0 {
			m = o.Node(o.Pick(3))
		}
		wanted := alikeByWords(n, m)
		wantAlike(t, "random", n, m, wanted)
		met[wanted]++
	}
	if met[true] < 5000 || met[false] < 5000 {
		t.Errorf("%v", met)
	}
}

// P1: of nodes of any shape.
func TestAlikeOdd(t *testing.T) {
	cur, other := leaf(api.Cur, api.Bool, 0, 3), leaf(api.Cur, api.Bool, 0, 4)
	wantDeep := func(what string, a, b api.Node, wanted bool) {
		t.Helper()
		if prove.Alike(a, b) != wanted || prove.Alike(b, a) != wanted {
			t.Errorf("%s: not %v", what, wanted)
		}
	}
	for _, times := range []int{1000, 300000} {
		wantDeep("far", sample.Far(api.OpNot, times, cur), sample.Far(api.OpNot, times, cur), true)
		wantDeep("far", sample.Far(api.OpNot, times, cur), sample.Far(api.OpNot, times, other), false)
	}
	wantDeep("shared", sample.Shared(api.OpOr, 400, cur), sample.Shared(api.OpOr, 400, cur), true)
	wantDeep("shared", sample.Shared(api.OpOr, 400, cur), sample.Shared(api.OpOr, 400, other), false)
	wantDeep("shared", sample.Shared(api.OpOr, 400, cur), sample.Shared(api.OpOr, 401, cur), false)
	for width := 1; width < 5; width++ {
		wantDeep("circles", sample.Circle(api.OpOr, width), sample.Circle(api.OpOr, width), true)
		wantDeep("circles", sample.Circle(api.OpOr, width), sample.Circle(api.OpAnd, width), false)
		wantDeep("circles", sample.Circle(api.OpOr, width), sample.Circle(api.OpOr, width+1), false)
		wantDeep("a circle", sample.Circle(api.OpOr, width), cur, false)
	}
}
