package ssa_test

import (
	"math"
	"math/rand/v2"
	"slices"
	"testing"

	"auspice/api"
	"auspice/nodes"
	"auspice/sample"
	"auspice/ssa"
)

func wantMade(t *testing.T, what string, l []api.Node, share bool, wanted api.Code) {
	t.Helper()
	got, err := ssa.Make(l, share)
	if err != api.OK {
		t.Fatalf("%s: the error %d", what, err)
	}
	wanted.Regs = len(wanted.List) - 1
	wantCode(t, what, got, wanted)
}

// P17.1: the chapter's example, and several conditions, instruction by instruction.
func TestMakeExamples(t *testing.T) {
	x := leaf(api.Of, api.Int, 0, 1)
	input := []api.Input{{Op: api.Of, Kind: api.Int, Pos: 0, Attr: 1}}
	less := of(api.OpLt, of(api.OpAdd, x, constant(1)), of(api.OpAdd, x, constant(2)))
	consts := []api.Value{sample.Int(1), sample.Int(2)}
	wantMade(t, "shared", []api.Node{less}, true, api.Code{Inputs: input, Consts: consts, List: []api.Ins{
		{Op: api.InsInput}, {Op: api.InsConst, Dst: 1}, {Op: api.OpAdd, Dst: 2, A: 0, B: 1},
		{Op: api.InsConst, Dst: 3, A: 1}, {Op: api.OpAdd, Dst: 4, A: 0, B: 3},
		{Op: api.OpLt, Dst: 5, A: 2, B: 4}, {Op: api.InsTell, A: 5},
	}})
	wantMade(t, "not shared", []api.Node{less}, false, api.Code{Inputs: input, Consts: consts, List: []api.Ins{
		{Op: api.InsInput}, {Op: api.InsConst, Dst: 1}, {Op: api.OpAdd, Dst: 2, A: 0, B: 1},
		{Op: api.InsInput, Dst: 3}, {Op: api.InsConst, Dst: 4, A: 1}, {Op: api.OpAdd, Dst: 5, A: 3, B: 4},
		{Op: api.OpLt, Dst: 6, A: 2, B: 5}, {Op: api.InsTell, A: 6},
	}})
	not := of(api.OpNot, x)
	three := []api.Node{x, not, constant(7)}
	wantMade(t, "three, shared", three, true, api.Code{Inputs: input, Consts: []api.Value{sample.Int(7)}, List: []api.Ins{
		{Op: api.InsInput}, {Op: api.OpNot, Dst: 1, A: 0}, {Op: api.OpAnd, Dst: 2, A: 0, B: 1},
		{Op: api.InsConst, Dst: 3}, {Op: api.OpAnd, Dst: 4, A: 2, B: 3}, {Op: api.InsTell, A: 4},
	}})
	wantMade(t, "three, not shared", three, false, api.Code{Inputs: input, Consts: []api.Value{sample.Int(7)}, List: []api.Ins{
		{Op: api.InsInput}, {Op: api.InsInput, Dst: 1}, {Op: api.OpNot, Dst: 2, A: 1}, {Op: api.OpAnd, Dst: 3, A: 0, B: 2},
		{Op: api.InsConst, Dst: 4}, {Op: api.OpAnd, Dst: 5, A: 3, B: 4}, {Op: api.InsTell, A: 5},
	}})
	wantMade(t, "a leaf", []api.Node{x}, true, api.Code{Inputs: input, List: []api.Ins{{Op: api.InsInput}, {Op: api.InsTell}}})
	wantMade(t, "a constant", []api.Node{constant(7)}, false, api.Code{Consts: []api.Value{sample.Int(7)}, List: []api.Ins{{Op: api.InsConst}, {Op: api.InsTell}}})
}

// P17.1: what conditions are joined by is shared, too: with what is joined so within them, and with what is joined ahead.
func TestMakeSharesJoints(t *testing.T) {
	x, y := leaf(api.Cur, api.Bool, 0, 0), leaf(api.Cur, api.Bool, 0, 1)
	inputs := []api.Input{{Op: api.Cur, Kind: api.Bool}, {Op: api.Cur, Kind: api.Bool, Attr: 1}}
	both := of(api.OpAnd, x, y)
	wantMade(t, "a joint, then the same within a condition", []api.Node{x, y, both}, true, api.Code{Inputs: inputs, List: []api.Ins{
		{Op: api.InsInput}, {Op: api.InsInput, Dst: 1, A: 1}, {Op: api.OpAnd, Dst: 2, A: 0, B: 1}, {Op: api.OpAnd, Dst: 3, A: 2, B: 2}, {Op: api.InsTell, A: 3},
	}})
	wantMade(t, "the same within a condition, then a joint", []api.Node{x, of(api.OpNot, both), y}, true, api.Code{Inputs: inputs, List: []api.Ins{
		{Op: api.InsInput}, {Op: api.InsInput, Dst: 1, A: 1}, {Op: api.OpAnd, Dst: 2, A: 0, B: 1}, {Op: api.OpNot, Dst: 3, A: 2},
		{Op: api.OpAnd, Dst: 4, A: 0, B: 3}, {Op: api.OpAnd, Dst: 5, A: 4, B: 1}, {Op: api.InsTell, A: 5},
	}})
	wantMade(t, "a condition that is the joint to come", []api.Node{x, x, of(api.OpAnd, x, x)}, true, api.Code{Inputs: inputs[:1], List: []api.Ins{
		{Op: api.InsInput}, {Op: api.OpAnd, Dst: 1}, {Op: api.OpAnd, Dst: 2, A: 1, B: 1}, {Op: api.InsTell, A: 2},
	}})
	// operands the other way round are another instruction
	wantMade(t, "turned round", []api.Node{of(api.OpOr, both, of(api.OpAnd, y, x))}, true, api.Code{Inputs: inputs, List: []api.Ins{
		{Op: api.InsInput}, {Op: api.InsInput, Dst: 1, A: 1}, {Op: api.OpAnd, Dst: 2, A: 0, B: 1}, {Op: api.OpAnd, Dst: 3, A: 1, B: 0}, {Op: api.OpOr, Dst: 4, A: 2, B: 3}, {Op: api.InsTell, A: 4},
	}})
}

// P17.1: a leaf is what it has, each thing of it; Inputs are one only if all of that is.
func TestMakeLeaves(t *testing.T) {
	for op := api.LitInt; op <= api.Of; op++ {
		if !isLeaf(op) || op == api.Const {
			continue
		}
		n := leaf(op, 3, -4, math.MaxInt)
		n.Value = sample.Int(5)
		wantMade(t, "the leaf "+dump(op), []api.Node{n}, true, api.Code{Inputs: []api.Input{{Op: op, Kind: 3, Pos: -4, Attr: math.MaxInt}}, List: []api.Ins{{Op: api.InsInput}, {Op: api.InsTell}}})
	}
	n := api.Node{Op: api.Const, Kind: 9, Pos: 1, Attr: 2, Value: api.Value{Kind: api.Bool, Bits: 7}}
	wantMade(t, "a constant as it is", []api.Node{n}, true, api.Code{Consts: []api.Value{{Kind: api.Bool, Bits: 7}}, List: []api.Ins{{Op: api.InsConst}, {Op: api.InsTell}}})
	x := leaf(api.Sum, api.Int, 1, 1)
	for i, change := range sample.Changes() {
		y := x
		change(&y)
		inputs := 2
		if y.Value != x.Value { // which is none of a leaf's that isn't a Const
			inputs = 1
		}
		for _, share := range []bool{false, true} {
			made, err := ssa.Make([]api.Node{x, y, x}, share)
			if err != api.OK || len(made.Inputs) != inputs || !ssa.Plain(made) {
				t.Errorf("the change %d: %+v", i, made)
			}
		}
	}
	values := []api.Value{sample.Int(1), sample.Bool(1), sample.Sym(1), sample.Real(1), {Bits: 1}, {}, sample.Real(0), sample.Real(sample.SignBit), sample.Real(sample.NaN), sample.Real(sample.NaN + 1)}
	l := []api.Node{}
	for _, v := range slices.Concat(values, values) {
		l = append(l, api.Node{Op: api.Const, Value: v})
	}
	made, _ := ssa.Make(l, true)
	if !slices.Equal(made.Consts, values) {
		t.Errorf("%v of %v", made.Consts, values)
	}
}

// wordly is code that is made word by word.
type wordly struct {
	share bool
	api.Code
}

func (w *wordly) add(op, a, b int) int {
	if w.share {
		for _, i := range w.List {
			if i.Op == op && i.A == a && i.B == b {
				return i.Dst
			}
		}
	}
	w.List = append(w.List, api.Ins{Op: op, Dst: len(w.List), A: a, B: b})
	return len(w.List) - 1
}

func (w *wordly) node(n api.Node) int {
	switch {
	case len(n.Args) == 1:
		return w.add(n.Op, w.node(n.Args[0]), 0)
	case len(n.Args) == 2:
		a := w.node(n.Args[0])
		b := w.node(n.Args[1])
		return w.add(n.Op, a, b)
	case n.Op == api.Const:
		if !slices.Contains(w.Consts, n.Value) {
			w.Consts = append(w.Consts, n.Value)
		}
		return w.add(api.InsConst, slices.Index(w.Consts, n.Value), 0)
	}
	x := api.Input{Op: n.Op, Kind: n.Kind, Pos: n.Pos, Attr: n.Attr}
	if !slices.Contains(w.Inputs, x) {
		w.Inputs = append(w.Inputs, x)
	}
	return w.add(api.InsInput, slices.Index(w.Inputs, x), 0)
}

func byWords(l []api.Node, share bool) (api.Code, api.Errno) {
	if len(l) == 0 || slices.ContainsFunc(l, isWrong) {
		return api.Code{}, api.ErrArg
	}
	w := wordly{share: share}
	told := w.node(l[0])
	for _, n := range l[1:] {
		next := w.node(n)
		told = w.add(api.OpAnd, told, next)
	}
	w.Regs = len(w.List)
	w.List = append(w.List, api.Ins{Op: api.InsTell, A: told})
	if len(w.List) > api.MaxCode {
		return api.Code{}, api.ErrLong
	}
	return w.Code, api.OK
}

func isWrong(n api.Node) bool {
	if len(n.Args) == 0 {
		return !isLeaf(n.Op)
	}
	return len(n.Args) != operands(n.Op) || slices.ContainsFunc(n.Args, isWrong)
}

// bush is a right node of so many leaves, of few sorts, so that much of it is there twice; now and then one is wrong.
func bush(r *rand.Rand, leaves int, wrong bool) api.Node {
	if wrong && r.IntN(200) == 0 {
		o := sample.Odd{Pick: r.IntN}
		return o.Node(2)
	}
	if r.IntN(4) == 0 {
		return of([]int{api.OpNot, api.OpNeg, api.OpReal, api.OpNan}[r.IntN(4)], bush(r, leaves, wrong))
	}
	if leaves == 1 {
		if r.IntN(2) == 0 {
			return constant(int64(r.IntN(4)))
		}
		return leaf([]int{api.Cur, api.Of, api.Count, api.Mean}[r.IntN(4)], 1+r.IntN(2), 0, r.IntN(2)-1)
	}
	left := 1 + r.IntN(leaves-1)
	op := []int{api.OpAnd, api.OpAnd, api.OpOr, api.OpAdd, api.OpMod, api.OpGe, api.OpDiv}[r.IntN(7)]
	return of(op, bush(r, left, wrong), bush(r, leaves-left, wrong))
}

// P17.1: conditions of all sorts, against the chapter's words.
func TestMakeRandom(t *testing.T) {
	r := rand.New(rand.NewPCG(17, 1))
	told, shorter := map[api.Errno]int{}, 0
	for round := range 20000 {
		l := []api.Node{}
		for range r.IntN(5) {
			l = append(l, bush(r, 1+r.IntN(8), true))
		}
		if round%100 == 0 {
			l = append(l, bush(r, 300+r.IntN(300), false))
		}
		for _, share := range []bool{false, true} {
			got, err := ssa.Make(l, share)
			wanted, wantedErr := byWords(l, share)
			if err != wantedErr || dump(got) != dump(wanted) {
				t.Fatalf("%+v, share %v: %d %+v, wanted %d %+v", l, share, err, got, wantedErr, wanted)
			}
			if err == api.OK && !ssa.Plain(got) {
				t.Fatalf("not plain: %+v", got)
			}
			told[err]++
		}
		whole, _ := ssa.Make(l, false)
		if shared, _ := ssa.Make(l, true); shared.Regs < whole.Regs {
			shorter++
		}
	}
	if told[api.OK] < 10000 || told[api.ErrArg] < 1000 || told[api.ErrLong] < 50 || shorter < 5000 {
		t.Errorf("%v, shared is shorter %d times", told, shorter)
	}
}

// meant is the node that a register of code means.
func meant(c api.Code, reg int) api.Node {
	i := c.List[reg]
	switch i.Op {
	case api.InsInput:
		x := c.Inputs[i.A]
		return api.Node{Op: x.Op, Kind: x.Kind, Pos: x.Pos, Attr: x.Attr}
	case api.InsConst:
		return api.Node{Op: api.Const, Kind: api.Int, Value: c.Consts[i.A]}
	}
	n := of(i.Op)
	for _, r := range reads(i) {
		n.Args = append(n.Args, meant(c, r))
	}
	return n
}

// P17.1: what is told means the conditions, joined one by one; with share no two instructions are alike, without it none is read twice.
func TestMakeMeans(t *testing.T) {
	r := rand.New(rand.NewPCG(17, 2))
	for range 10000 {
		l := []api.Node{bush(r, 1+r.IntN(9), false)}
		chain := l[0]
		for range r.IntN(4) {
			l = append(l, bush(r, 1+r.IntN(9), false))
			chain = of(api.OpAnd, chain, l[len(l)-1])
		}
		for _, share := range []bool{false, true} {
			c, err := ssa.Make(l, share)
			if err != api.OK || !nodes.Same(meant(c, c.List[c.Regs].A), chain) {
				t.Fatalf("%+v of %+v", c, l)
			}
			alike, used := map[api.Ins]int{}, map[int]int{}
			for _, i := range c.List {
				alike[api.Ins{Op: i.Op, A: i.A, B: i.B}]++
				for _, reg := range reads(i) {
					used[reg]++
				}
			}
			for reg := range c.Regs {
				if used[reg] == 0 || !share && used[reg] > 1 {
					t.Fatalf("the register %d of %+v is read %d times", reg, c, used[reg])
				}
			}
			if share && len(alike) != len(c.List) {
				t.Fatalf("two instructions of %+v are alike", c)
			}
		}
	}
}

func wantError(t *testing.T, what string, l []api.Node, share bool, wanted api.Errno) {
	t.Helper()
	c, err := ssa.Make(l, share)
	if err != wanted || err != api.OK && !none(c) || err == api.OK && len(c.List) != c.Regs+1 {
		t.Errorf("%s (share %v): the error %d, wanted %d; %d instructions", what, share, err, wanted, len(c.List))
	}
}

// P17.1: nodes that are none of the chapter's, alone and below others, ahead and behind.
func TestMakeErrArg(t *testing.T) {
	x := leaf(api.Cur, api.Int, 0, 0)
	ops := []int{math.MinInt, -1, math.MaxInt}
	for op := range 60 {
		ops = append(ops, op)
	}
	for _, share := range []bool{false, true} {
		wantError(t, "nil", nil, share, api.ErrArg)
		wantError(t, "none", []api.Node{}, share, api.ErrArg)
		for _, op := range ops {
			for count := range 5 {
				wanted := api.ErrArg
				if count == operands(op) && count > 0 || count == 0 && isLeaf(op) {
					wanted = api.OK
				}
				n := of(op, slices.Repeat([]api.Node{x}, count)...)
				wantError(t, dump(n), []api.Node{n}, share, wanted)
				wantError(t, "ahead "+dump(n), []api.Node{n, x}, share, wanted)
				wantError(t, "behind "+dump(n), []api.Node{x, x, n}, share, wanted)
				wantError(t, "below on the left "+dump(n), []api.Node{of(api.OpNot, of(api.OpOr, n, x))}, share, wanted)
				wantError(t, "below on the right "+dump(n), []api.Node{x, of(api.OpLe, x, of(api.OpNeg, n))}, share, wanted)
			}
		}
		many := slices.Repeat([]api.Node{x}, 3000)
		wantError(t, "too many, the last one wrong", append(many, api.Node{}), share, api.ErrArg)
		wantError(t, "too deep, the last one wrong", []api.Node{sample.Far(api.OpNot, 5000, of(api.OpNot))}, share, api.ErrArg)
		wantError(t, "too deep, then a wrong one", []api.Node{sample.Far(api.OpNot, 5000, x), of(api.Cur, x)}, share, api.ErrArg)
	}
}

// P17.1: as many instructions as there may be, and one more.
func TestMakeErrLong(t *testing.T) {
	x := leaf(api.Cur, api.Int, 0, 0)
	various := []api.Node{}
	for i := range api.MaxCode {
		various = append(various, constant(int64(i)))
	}
	one := slices.Repeat([]api.Node{x}, api.MaxCode)
	for _, c := range []struct {
		what  string
		l     []api.Node
		share bool
		less  []api.Node // of as many instructions as there may be
	}{
		{"various", various[:513], true, various[:512]},
		{"various", various[:513], false, various[:512]},
		{"one and the same", one[:1024], true, one[:1023]},
		{"one and the same", one[:513], false, one[:512]},
		{"deep", []api.Node{sample.Far(api.OpNot, 1023, x)}, true, []api.Node{sample.Far(api.OpNot, 1022, x)}},
		{"deep", []api.Node{sample.Far(api.OpNot, 1023, x)}, false, []api.Node{sample.Far(api.OpNot, 1022, x)}},
		{"deep, the second one", []api.Node{x, sample.Far(api.OpNot, 1022, x)}, true, []api.Node{x, sample.Far(api.OpNot, 1021, x)}},
		{"deep, the second one", []api.Node{x, sample.Far(api.OpNot, 1021, x)}, false, []api.Node{x, sample.Far(api.OpNot, 1020, x)}},
		{"twice itself", []api.Node{sample.Shared(api.OpOr, 1023, x)}, true, []api.Node{sample.Shared(api.OpOr, 1022, x)}},
		{"twice itself", []api.Node{of(api.OpNot, sample.Shared(api.OpOr, 9, x))}, false, []api.Node{sample.Shared(api.OpOr, 9, x)}},
		{"a joint", []api.Node{sample.Far(api.OpNot, 1022, x), x}, true, []api.Node{sample.Far(api.OpNot, 1021, x), x}},
	} {
		wantError(t, "too long: "+c.what, c.l, c.share, api.ErrLong)
		wantError(t, "not too long: "+c.what, c.less, c.share, api.OK)
		if made, _ := ssa.Make(c.less, c.share); len(made.List) != api.MaxCode {
			t.Errorf("%s: %d instructions", c.what, len(made.List))
		}
	}
}

// P1: conditions that are far deeper than any query's, that share, that go round.
func TestMakeOdd(t *testing.T) {
	x := leaf(api.Cur, api.Int, 0, 0)
	circle := sample.Circle(api.OpAnd, 2)
	list := []api.Node{of(api.OpNot), x}
	list[0].Args = list[1:]
	left, right := []api.Node{of(api.OpOr), x}, []api.Node{x, of(api.OpOr)}
	left[0].Args, right[1].Args = left, right
	far := x
	for range 1000000 {
		far = of(api.OpOr, x, far)
	}
	for _, share := range []bool{false, true} {
		wantError(t, "far", []api.Node{sample.Far(api.OpNot, 1000000, x)}, share, api.ErrLong)
		wantError(t, "round", []api.Node{circle}, share, api.ErrLong)
		wantError(t, "round and round", []api.Node{sample.Circle(api.OpNot, 1), circle}, share, api.ErrLong)
		wantError(t, "round, below others", []api.Node{x, of(api.OpNot, of(api.OpOr, x, circle))}, share, api.ErrLong)
		wantError(t, "far on the right", []api.Node{far}, share, api.ErrLong)
		wantError(t, "round on the left", left, share, api.ErrLong)
		wantError(t, "round on the right", right, share, api.ErrLong)
		wantError(t, "round, of no operator", []api.Node{sample.Circle(api.Cur, 1)}, share, api.ErrArg)
		wantError(t, "round, of too many", []api.Node{sample.Circle(api.OpAnd, 3)}, share, api.ErrArg)
		wantError(t, "round, then a wrong one", []api.Node{circle, of(api.OpNot)}, share, api.ErrArg)
		wantError(t, "shared, and wrong", []api.Node{sample.Shared(api.OpAnd, 300, of(api.OpNot))}, share, api.ErrArg)
		wantError(t, "many that share", slices.Repeat([]api.Node{sample.Shared(api.OpAnd, 300, x)}, 20000), share, api.ErrLong)
		wantError(t, "a list within itself", list, share, api.OK)
	}
	wantError(t, "very often shared", []api.Node{sample.Shared(api.OpAnd, 300, x)}, false, api.ErrLong)
	made, err := ssa.Make([]api.Node{sample.Shared(api.OpAnd, 300, x)}, true)
	if err != api.OK || made.Regs != 301 || made.List[300] != (api.Ins{Op: api.OpAnd, Dst: 300, A: 299, B: 299}) {
		t.Errorf("%d: %+v", err, made)
	}
	o := sample.Odd{Pick: rand.New(rand.NewPCG(17, 3)).IntN}
	for range 20000 {
		l := o.Nodes()
		for _, share := range []bool{false, true} {
			got, err := ssa.Make(l, share)
			wanted, wantedErr := byWords(l, share)
			if err != wantedErr || dump(got) != dump(wanted) {
				t.Fatalf("%+v, share %v: %d %+v", l, share, err, got)
			}
		}
	}
}

// The rule on memory: what is handed in isn't changed, spare room included; answers share none.
func TestMakeMemory(t *testing.T) {
	r := rand.New(rand.NewPCG(17, 4))
	for range 2000 {
		l := make([]api.Node, 0, 6)
		for range 1 + r.IntN(4) {
			n := bush(r, 1+r.IntN(6), false)
			n.Args = append(make([]api.Node, 0, 5), n.Args...)
			l = append(l, n)
		}
		before := dump(l[:cap(l)])
		for _, share := range []bool{false, true} {
			first, _ := ssa.Make(l, share)
			second, _ := ssa.Make(l, share)
			wanted := dump(second)
			if !sample.Once(codeRooms(first), codeRooms(second)) {
				t.Fatalf("answers of %+v share memory", l)
			}
			clear(first.List[:cap(first.List)])
			clear(first.Inputs[:cap(first.Inputs)])
			clear(first.Consts[:cap(first.Consts)])
			if third, _ := ssa.Make(l, share); dump(second) != wanted || dump(third) != wanted {
				t.Fatalf("answers of %+v hang together", l)
			}
		}
		if dump(l[:cap(l)]) != before {
			t.Fatalf("%s became %+v", before, l)
		}
	}
}
