package expr_test

import (
	"math"
	"slices"
	"testing"

	"auspice/api"
	"auspice/expr"
)

// P6.3
func TestNodes(t *testing.T) {
	for _, e := range leaves() {
		if got := expr.Nodes(e); got != 1 {
			t.Errorf("Nodes(%v): %d", e, got)
		}
	}
	r := random()
	for range 1000 {
		e := randomTree(r, 1+r.IntN(200), api.MaxDeep)
		if got := expr.Nodes(e); got != size(e) {
			t.Errorf("Nodes(%v): %d, wanted %d", e, got, size(e))
		}
	}
	for e, wanted := range map[*api.Expr]int{
		{}: 1, {Op: -1, Args: []api.Expr{{}, {}, {Args: make([]api.Expr, 5)}}}: 9, {Op: api.LitInt, Args: make([]api.Expr, 100000)}: 100001,
	} {
		if got := expr.Nodes(*e); got != wanted {
			t.Errorf("%d nodes, wanted %d", got, wanted)
		}
	}
}

// changed are copies of a tree, each changed at one place, its Ats aside.
func changed(e api.Expr) []api.Expr {
	l := []api.Expr{}
	add := func(change func(x *api.Expr)) {
		x := e
		change(&x)
		l = append(l, x)
	}
	add(func(x *api.Expr) { x.Op++ })
	add(func(x *api.Expr) { x.N ^= math.MinInt64 })
	add(func(x *api.Expr) { x.Scale-- })
	add(func(x *api.Expr) { x.Name += "z" })
	add(func(x *api.Expr) { x.Attr += "z" })
	add(func(x *api.Expr) { x.Args = append(slices.Clone(x.Args), api.Expr{}) })
	for i := range e.Args {
		add(func(x *api.Expr) { x.Args = slices.Delete(slices.Clone(x.Args), i, i+1) })
		for _, arg := range changed(e.Args[i]) {
			add(func(x *api.Expr) {
				x.Args = slices.Clone(x.Args)
				x.Args[i] = arg
			})
		}
	}
	return l
}

// P6.3
func TestSame(t *testing.T) {
	r := random()
	trees := []api.Expr{{}, of(-1, api.Expr{}, number(3), api.Expr{}), of(api.OpSub, number(1), number(2)), of(api.OpSub, number(2), number(1))}
	for range 100 {
		trees = append(trees, randomTree(r, 1+r.IntN(20), api.MaxDeep))
	}
	for _, e := range trees {
		other := moved(e)
		if !expr.Same(e, e) || !expr.Same(e, other) || !expr.Same(other, e) {
			t.Errorf("not the same at other places: %v", e)
		}
		for _, x := range changed(e) {
			if expr.Same(e, x) || expr.Same(x, other) {
				t.Errorf("the same: %v, %v", e, x)
			}
		}
	}
	for i, a := range trees {
		for j, b := range trees {
			if got := expr.Same(a, b); got != equal(unplaced(a), unplaced(b)) {
				t.Errorf("Same of %d and %d: %v", i, j, got)
			}
		}
	}
	if !expr.Same(api.Expr{Args: []api.Expr{}}, api.Expr{}) {
		t.Error("an empty list isn't as none")
	}
}

// moved is a copy with all places changed, and empty lists for none.
func moved(e api.Expr) api.Expr {
	e.At = e.At*3 - 5
	args := e.Args
	e.Args = []api.Expr{}
	for _, x := range args {
		e.Args = append(e.Args, moved(x))
	}
	return e
}

// P1: trees that are far deeper than any text's.
func TestDeepTrees(t *testing.T) {
	const far = 100000
	left, right := number(1), number(1)
	for range far {
		left, right = of(api.OpSub, left, number(1)), of(api.OpSub, number(1), right)
	}
	for _, e := range []api.Expr{left, right} {
		if got := expr.Nodes(e); got != 2*far+1 {
			t.Errorf("%d nodes", got)
		}
		wantNoPrint(t, "far too deep", e, api.ErrLong)
	}
	if !expr.Same(left, left) || expr.Same(left, right) {
		t.Error("Same of deep trees")
	}
	wantNoPrint(t, "far too deep, of no form", deep(api.OpNeg, far, number(-1)), api.ErrForm)
}

// P1, P6.3: trees that hold one list of Args at many places.
func TestSharedTrees(t *testing.T) {
	a, b := number(1), number(1)
	for range 20 {
		a, b = of(api.OpAdd, a, a), of(api.OpAdd, b, b)
	}
	if got := expr.Nodes(a); got != 1<<21-1 {
		t.Errorf("%d nodes", got)
	}
	for range 200 {
		a, b = of(api.OpAdd, a, a), of(api.OpAdd, b, b)
	}
	expr.Nodes(a)
	wantNoPrint(t, "without bounds", a, api.ErrLong)
	wantNoPrint(t, "without bounds, of no form", of(api.OpAdd, a, truth(2)), api.ErrForm)
	if !expr.Same(a, b) || expr.Same(a, of(api.OpAdd, b, number(1))) {
		t.Error("Same of trees that share")
	}
}

// round is a tree that goes in a circle of so many nodes.
func round(op, nodes, width int) api.Expr {
	first := make([]api.Expr, width)
	args := first
	for range nodes - 1 {
		args = slices.Repeat([]api.Expr{of(op, args...)}, width)
	}
	for i := range first {
		first[i] = of(op, args...)
	}
	return first[0]
}

// P1: trees without an end.
func TestRoundTrees(t *testing.T) {
	for nodes := range 4 {
		for width, op := range map[int]int{1: api.OpNeg, 2: api.OpAdd, 3: api.OpNot} {
			e := round(op, nodes+1, width)
			expr.Nodes(e)
			if text, err := expr.Print(e); text != "" || err == api.OK {
				t.Errorf("%q is printed of a circle", text)
			}
			if !expr.Same(e, round(op, 3, width)) || expr.Same(e, of(op, number(1))) {
				t.Error("Same of circles")
			}
		}
	}
}

// P1: nodes with anything in them.
func TestOddTrees(t *testing.T) {
	r := random()
	pick := func() int {
		return []int{math.MinInt, -1, 0, 1, 2, 3, 5, 7, 12, 15, 16, 17, 20, 21, 22, 24, 25, 26, 40, math.MaxInt}[r.IntN(20)]
	}
	text := func() string { return []string{"", "a", "TIME", "\xff", "a b", "'"}[r.IntN(6)] }
	for range 20000 {
		e := api.Expr{}
		for range r.IntN(6) {
			e = api.Expr{Op: pick(), N: int64(pick()), Scale: pick(), Name: text(), Attr: text(), At: pick(), Args: slices.Repeat([]api.Expr{e}, r.IntN(3))}
		}
		expr.Nodes(e)
		expr.Same(e, e)
		if s, err := expr.Print(e); err == api.OK {
			if got, _, err := expr.Parse(s); err != api.OK || !expr.Same(got, e) {
				t.Errorf("%q isn't read back as %v", s, e)
			}
		}
	}
}

// The rule on memory: trees aren't changed, spare room included.
func TestPrintMemory(t *testing.T) {
	args := []api.Expr{placed(3, number(1)), placed(4, attr("a", "x")), truth(1)}
	e := of(api.OpAnd, args[:2]...)
	expr.Print(e)
	expr.Nodes(e)
	expr.Same(e, e)
	for i, wanted := range []api.Expr{placed(3, number(1)), placed(4, attr("a", "x")), truth(1)} {
		if !equal(args[i], wanted) {
			t.Errorf("an operand is changed: %v", args[i])
		}
	}
}
