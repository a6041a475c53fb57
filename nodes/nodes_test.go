package nodes_test

import (
	"math"
	"math/rand/v2"
	"testing"

	"auspice/api"
	"auspice/nodes"
	"auspice/sample"
	"auspice/tree"
)

func wantCopy(t *testing.T, n api.Node) {
	t.Helper()
	m := nodes.Copied(n)
	if !nodes.Same(n, m) || !nodes.Same(m, n) {
		t.Fatalf("a copy of %+v: %+v", n, m)
	}
	if !sample.Apart([][]api.Node{m.Args}, [][]api.Node{n.Args}) {
		t.Fatalf("a copy of %+v shares memory", n)
	}
}

func TestCopied(t *testing.T) {
	o := sample.Odd{Pick: rand.New(rand.NewPCG(13, 1)).IntN}
	for range 5000 {
		n := o.Node(o.Pick(6))
		wantCopy(t, n)
		wantCopy(t, sample.Shared(api.OpAnd, o.Pick(5), n))
		n.Args = append(make([]api.Node, 0, 9), n.Args...)
		wantCopy(t, n)
	}
	wantCopy(t, api.Node{Args: make([]api.Node, 0, 3)})
}

// A copy of a great tree is the same, and shares with none but itself; one of a circle ends.
func TestCopiedOdd(t *testing.T) {
	leaf := api.Node{Op: api.Cur, Attr: 3}
	for _, n := range []api.Node{sample.Shared(api.OpAnd, 18, leaf), sample.Shared(api.OpAnd, 400, leaf), sample.Far(api.OpNot, 1000000, leaf)} {
		m := nodes.Copied(n)
		if !nodes.Same(n, m) {
			t.Error("a copy is another")
		}
		met := map[*api.Node]struct{}{}
		for x := range tree.Upward(&n, nodes.Args) {
			met[x] = struct{}{}
		}
		for x := range tree.Upward(&m, nodes.Args) {
			if _, ok := met[x]; ok {
				t.Fatal("a copy shares memory")
			}
		}
	}
	for width := 1; width < 6; width++ {
		if m := nodes.Copied(sample.Circle(api.OpNot, width)); m.Op != api.OpNot || len(m.Args) != width || tree.Count(&m, nodes.Args) == math.MaxInt32 {
			t.Errorf("a circle of %d: %+v", width, m)
		}
	}
}

func TestCopies(t *testing.T) {
	one := sample.Shared(api.OpAnd, 2, api.Node{Op: api.Cur})
	l := append(make([]api.Node, 0, 7), one, api.Node{Op: 3}, one)
	m := nodes.Copies(l)
	if !sample.Apart([][]api.Node{m}, [][]api.Node{l}) {
		t.Error("copies share memory")
	}
	for i := range l {
		if len(m) != 3 || !nodes.Same(l[i], m[i]) {
			t.Errorf("%+v of %+v", m, l)
		}
	}
	if len(nodes.Copies(nil)) != 0 {
		t.Error("copies of none")
	}
}

func TestIsLeaf(t *testing.T) {
	leaves := 0
	for op := -100; op < 100; op++ {
		if nodes.IsLeaf(op) {
			leaves++
		}
	}
	for _, op := range []int{api.Const, api.Cur, api.Of, api.Count, api.First, api.Last, api.Sum, api.Min, api.Max, api.Mean} {
		if !nodes.IsLeaf(op) {
			t.Errorf("%d is none", op)
		}
	}
	if leaves != 10 || nodes.IsLeaf(math.MinInt) || nodes.IsLeaf(math.MaxInt) {
		t.Errorf("there are %d", leaves)
	}
}

func TestAllSame(t *testing.T) {
	x, y := api.Node{Op: api.Cur, Attr: 1}, api.Node{Op: api.OpNot, Args: []api.Node{{Op: api.Of}}}
	for i, l := range [][]api.Node{nil, {x}, {y}, {x, y}, {y, x}, {x, y, y}} {
		for j, m := range [][]api.Node{{}, {x}, nodes.Copies([]api.Node{y}), {x, y}, {y, x}, {x, y, y}} {
			if nodes.AllSame(l, m) != (i == j) {
				t.Errorf("AllSame of %+v, %+v", l, m)
			}
		}
	}
}

// What is kept is the same, shares no memory with what it is of, and is no greater, be lists shared as often as they will.
func TestKept(t *testing.T) {
	leaf := api.Node{Op: api.Cur, Attr: 3}
	o := sample.Odd{Pick: rand.New(rand.NewPCG(15, 0)).IntN}
	all := []api.Node{sample.Shared(api.OpAnd, 18, leaf), sample.Shared(api.OpAnd, 400, leaf), sample.Far(api.OpNot, 100000, leaf)}
	for range 1000 {
		all = append(all, o.Node(o.Pick(6)))
	}
	l := append(make([]api.Node, 0, 2*len(all)), all...)
	kept := nodes.Kept(l)
	met := map[*api.Node]struct{}{}
	for i := range l {
		for x := range tree.Upward(&l[i], nodes.Args) {
			met[x] = struct{}{}
		}
	}
	for i := range kept {
		if !nodes.Same(l[i], kept[i]) {
			t.Fatalf("%+v of %+v", kept[i], l[i])
		}
		count := 0
		for x := range tree.Upward(&kept[i], nodes.Args) {
			if _, ok := met[x]; ok {
				t.Fatal("what is kept shares memory")
			}
			count++
		}
		if count > 100001 {
			t.Errorf("there are %d nodes", count)
		}
	}
	for width := 1; width < 6; width++ {
		if m := nodes.Kept([]api.Node{sample.Circle(api.OpNot, width)})[0]; m.Op != api.OpNot || len(m.Args) != width || tree.Count(&m, nodes.Args) == math.MaxInt32 {
			t.Errorf("a circle of %d: %+v", width, m)
		}
	}
	if len(nodes.Kept(nil)) != 0 {
		t.Error("something is kept of none")
	}
}
