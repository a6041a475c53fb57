package eval_test

import (
	"math"
	"math/rand/v2"
	"slices"
	"strconv"
	"testing"

	"auspice/api"
	"auspice/eval"
	"auspice/sample"
	"auspice/value"
)

// The chapter's examples.
func TestExamples(t *testing.T) {
	k := row(sample.Int(5), sample.Int(7), sample.Int(9))
	k.Bound[0] = []int{0, 1}
	for i, c := range []struct {
		n      api.Node
		wanted api.Value
	}{
		{gather(api.Sum, 0, 0), sample.Int(12)},
		{gather(api.Mean, 0, 0), api.Value{}},
		{gather(api.Last, 0, 0), sample.Int(7)},
		{cur(0), sample.Int(9)},
		{gather(api.Count, 1, 0), sample.Int(0)},
		{gather(api.Min, 1, 0), api.Value{}},
		{of(api.OpGt, cur(0), gather(api.Last, 0, 0)), yes(true)},
	} {
		if got := eval.Node(c.n, k); got != c.wanted {
			t.Errorf("%d: %v, wanted %v", i, got, c.wanted)
		}
	}
}

// leaves are Consts of all values, and others.
func leaves() []api.Node {
	l := []api.Node{cur(0), cur(-1), cur(2), gather(api.Of, 0, 0), gather(api.Of, 9, 0), gather(api.Count, 0, 0), gather(api.Sum, 0, -1), gather(api.Mean, 1, 1), gather(api.Min, 1, 0), {}, {Op: api.LitInt}, {Op: -1}}
	for _, v := range values() {
		l = append(l, constant(v))
	}
	return l
}

// look has two positions and events with attributes of several kinds.
func look() eval.Look {
	k := eval.Look{Bound: [][]int{{0, 1}, {2}}, Cur: 3}
	for i := range 4 {
		k.Events = append(k.Events, api.Event{Time: int64(i), Attrs: []api.Value{sample.Int(int64(i) - 2), sample.Real(math.Float64bits(float64(i) / 2))}})
	}
	return k
}

// P9.1: Apply of what the Args are, be they one, two, more or none.
func TestOperators(t *testing.T) {
	k, l := look(), leaves()
	for op := -2; op <= api.LitInt+1; op++ {
		checkOperator(t, op, k)
		for i, a := range l {
			checkOperator(t, op, k, a)
			for _, b := range l {
				checkOperator(t, op, k, a, b)
			}
			checkOperator(t, op, k, a, a, l[0])
			checkOperator(t, op, k, slices.Repeat(l[i:i+1], 300)...)
		}
	}
}

func checkOperator(t *testing.T, op int, k eval.Look, args ...api.Node) {
	t.Helper()
	l := []api.Value{}
	for _, n := range args {
		l = append(l, eval.Node(n, k))
	}
	n := of(op, args...)
	if got, wanted := eval.Node(n, k), value.Apply(op, l); got != wanted {
		t.Fatalf("%d of %v: %v, wanted %v", op, l, got, wanted)
	}
}

// random is a tree of so many nodes or some more.
func random(r *rand.Rand, l []api.Node, size int) api.Node {
	if size <= 1 {
		return l[r.IntN(len(l))]
	}
	op := api.OpAdd + r.IntN(api.OpNan)
	kind := r.IntN(6) - 1 // its Kind isn't looked at
	if r.IntN(4) == 0 {
		return api.Node{Op: op, Kind: kind, Args: []api.Node{random(r, l, size-1)}}
	}
	left := 1 + r.IntN(size-1)
	return api.Node{Op: op, Kind: kind, Args: []api.Node{random(r, l, left), random(r, l, size-1-left)}}
}

// asked is what a tree is, by recursion.
func asked(n api.Node, k eval.Look) api.Value {
	if len(n.Args) == 0 {
		return eval.Node(n, k)
	}
	l := []api.Value{}
	for _, arg := range n.Args {
		l = append(l, asked(arg, k))
	}
	return value.Apply(n.Op, l)
}

// P9.1: trees of all sizes, also of more nodes than any query's.
func TestTrees(t *testing.T) {
	r := rand.New(rand.NewPCG(9, 2))
	k, l := look(), leaves()
	ints := []api.Node{cur(0), cur(-1), gather(api.Sum, 0, 0), gather(api.Count, 1, 0), constant(sample.Int(3)), gather(api.Max, 0, -1)}
	kinds := map[int]int{}
	for i := range 20000 {
		n := random(r, [][]api.Node{l, ints}[i%2], 1+r.IntN(8))
		if i%20 == 0 {
			n = random(r, ints, 150+r.IntN(100))
		}
		got, wanted := eval.Node(n, k), asked(n, k)
		if got != wanted {
			t.Fatalf("%v: %v, wanted %v", n, got, wanted)
		}
		kinds[got.Kind]++
	}
	for _, kind := range []int{api.Poison, api.Int, api.Bool, api.Real} {
		if kinds[kind] < 300 {
			t.Errorf("the kind %d is told %d times", kind, kinds[kind])
		}
	}
}

// P9.1: sums of as many nodes as a query has at most, and of one more, to the left and to the right.
func TestManyNodes(t *testing.T) {
	one := constant(sample.Int(1))
	for _, ones := range []int{99, 100, 101, 102, 5000} {
		left, right := one, one
		for range ones - 1 {
			left, right = of(api.OpSub, left, one), of(api.OpSub, one, right)
		}
		if got := eval.Node(left, eval.Look{}); got != sample.Int(int64(2-ones)) {
			t.Errorf("%d to the left: %v", ones, got)
		}
		if got := eval.Node(right, eval.Look{}); got != sample.Int(int64(ones%2)) {
			t.Errorf("%d to the right: %v", ones, got)
		}
	}
}

// P9.1: Args of what has none in a plan aren't asked, whatever they are.
func TestArgsOfLeaves(t *testing.T) {
	k := look()
	circle := []api.Node{{Op: api.OpNot}}
	circle[0].Args = circle
	for _, args := range [][]api.Node{{{}}, circle, make([]api.Node, 1000)} {
		for _, n := range leaves() {
			n.Args = args
			wanted := n
			wanted.Args = nil
			if n.Op >= api.Count && eval.Node(n, k) != eval.Node(wanted, k) {
				t.Errorf("%d with Args: %v", n.Op, eval.Node(n, k))
			}
		}
	}
}

// P9.2
func TestAll(t *testing.T) {
	k := look()
	if !eval.All(nil, k) || !eval.All([]api.Node{}, k) {
		t.Error("all of none don't hold")
	}
	nodes := append(leaves(), of(api.OpGt, cur(-1), constant(sample.Int(2))), of(api.OpGt, cur(-1), constant(sample.Int(3))), of(api.OpDiv, cur(-1), constant(sample.Int(0))))
	for _, a := range nodes {
		holds := eval.Node(a, k) == sample.Bool(1)
		if eval.All([]api.Node{a}, k) != holds {
			t.Errorf("all of %v", a)
		}
		for _, b := range nodes {
			both := holds && eval.Node(b, k) == sample.Bool(1)
			if eval.All([]api.Node{a, b}, k) != both || eval.All([]api.Node{a, b, b, a}, k) != both {
				t.Errorf("all of %v, %v", a, b)
			}
		}
	}
}

// P1: trees that are far deeper than any query's, that share, that go round.
func TestOddTrees(t *testing.T) {
	far := constant(sample.Int(7))
	for range 1000000 {
		far = of(api.OpNeg, far)
	}
	if got := eval.Node(far, eval.Look{}); got != sample.Int(7) {
		t.Errorf("far down: %v", got)
	}
	shared := constant(sample.Int(1))
	for range 62 {
		shared = of(api.OpAdd, shared, shared)
	}
	if got := eval.Node(shared, eval.Look{}); got != sample.Int(1<<62) {
		t.Errorf("shared: %v", got)
	}
	for range 200 {
		shared = of(api.OpAdd, shared, shared)
	}
	if got := eval.Node(shared, eval.Look{}); got != (api.Value{}) {
		t.Errorf("shared very often: %v", got)
	}
	for width := range 4 {
		for op := -1; op < 50; op++ {
			circle := make([]api.Node, width+1)
			for i := range circle {
				circle[i] = of(op, circle...)
			}
			n := of(api.OpAnd, circle[0], of(op, circle...))
			eval.Node(n, look())
			eval.All(circle, look())
		}
	}
}

// P1: nodes and looks with anything in them.
func TestAnything(t *testing.T) {
	r := rand.New(rand.NewPCG(9, 3))
	odd := func() int {
		return []int{math.MinInt, -2, -1, 0, 1, 2, 3, 1 << 40, math.MaxInt}[r.IntN(9)]
	}
	ops := []int{math.MinInt, -1, 0, 1, 4, 5, 6, 7, 13, 15, 16, 17, 20, 24, 25, 26, 27, 28, 29, 30, 31, 40, 41, 42, 43, math.MaxInt}
	all := values()
	for range 20000 {
		k := eval.Look{Cur: odd()}
		for range r.IntN(4) {
			k.Events = append(k.Events, api.Event{Type: odd(), Time: int64(odd()), Attrs: slices.Repeat(all[r.IntN(len(all)):][:1], r.IntN(3))})
		}
		for range r.IntN(4) {
			k.Bound = append(k.Bound, [][]int{nil, {0}, {1, 0}, {odd(), odd()}}[r.IntN(4)])
		}
		n := api.Node{}
		for range r.IntN(6) {
			n = api.Node{Op: ops[r.IntN(len(ops))], Kind: odd(), Pos: odd(), Attr: odd(), Value: all[r.IntN(len(all))], Args: slices.Repeat([]api.Node{n}, r.IntN(4))}
		}
		if got := eval.Node(n, k); got != value.Clean(got) || eval.All([]api.Node{n}, k) != (got == sample.Bool(1)) {
			t.Errorf("%v in %v: %v", n, k, got)
		}
	}
}

// The rule on memory: what is handed in isn't changed, spare room included.
func TestMemory(t *testing.T) {
	k := look()
	k.Events[0].Attrs[0], k.Events[1].Attrs[1] = sample.Bool(2), sample.Real(math.MaxUint64)
	nodes := []api.Node{of(api.OpAnd, leaves()...), of(api.OpEq, constant(sample.Real(math.MaxUint64)), gather(api.Max, 0, 1)), constant(sample.Sym(99))}
	dump := func() string {
		s := ""
		for _, e := range k.Events {
			s += strconv.Itoa(e.Type) + "@" + strconv.FormatInt(e.Time, 10)
			for _, v := range e.Attrs[:cap(e.Attrs)] {
				s += " " + strconv.Itoa(v.Kind) + ":" + strconv.FormatUint(v.Bits, 16)
			}
		}
		for _, l := range k.Bound {
			for _, place := range l[:cap(l)] {
				s += ";" + strconv.Itoa(place)
			}
		}
		return s + dumpNodes(nodes[:cap(nodes)])
	}
	before := dump()
	for _, n := range nodes {
		eval.Node(n, k)
		eval.All(n.Args, k)
		for _, op := range aggregates {
			eval.Node(gather(op, 0, 0), k)
			eval.Node(gather(op, 0, 1), k)
		}
	}
	eval.All(nodes[:2], k)
	if dump() != before {
		t.Error("arguments are changed")
	}
}

func dumpNodes(l []api.Node) string {
	s := ""
	for _, n := range l {
		for _, x := range []int{n.Op, n.Kind, n.Value.Kind, int(n.Value.Bits), n.Pos, n.Attr} {
			s += " " + strconv.Itoa(x)
		}
		s += "(" + dumpNodes(n.Args[:cap(n.Args)]) + ")"
	}
	return s
}
