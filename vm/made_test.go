package vm_test

import (
	"math/rand/v2"
	"slices"
	"testing"

	"auspice/api"
	"auspice/eval"
	"auspice/fold"
	"auspice/plan"
	"auspice/query"
	"auspice/sample"
	"auspice/ssa"
	"auspice/vm"
)

// lists are all lists of conditions of a query by Shop; none, where its text is too long.
func lists(t *testing.T, text string) [][]api.Node {
	t.Helper()
	q, _, err := query.Parse(text)
	if err == api.ErrLong {
		return nil
	}
	p, at, made := plan.Make(sample.Shop(), q)
	if err != api.OK || made != api.OK {
		t.Fatalf("no plan: %q: %d, %d at %d", text, err, made, at)
	}
	l := [][]api.Node{}
	for _, b := range p.Branches {
		for _, part := range b.Parts {
			l = append(l, part.Guards, part.Closes, append(slices.Clone(part.Closes), part.Guards...))
		}
	}
	return l
}

// looks are some at a script, at any events of it.
func looks(r *rand.Rand, script []api.Event) []eval.Look {
	l := []eval.Look{}
	for range 8 {
		k := eval.Look{Events: script, Cur: r.IntN(len(script)+1) - 1}
		for range 1 + r.IntN(4) {
			places := []int{}
			for place := range script {
				if r.IntN(4) == 0 {
					places = append(places, place)
				}
			}
			k.Bound = append(k.Bound, places)
		}
		l = append(l, k)
	}
	return l
}

// handed is what code is handed in a look.
func handed(c api.Code, k eval.Look) []api.Value {
	l := []api.Value{}
	for _, x := range c.Inputs {
		l = append(l, eval.Node(api.Node{Op: x.Op, Pos: x.Pos, Attr: x.Attr}, k))
	}
	return l
}

// P18.3: code of queries' conditions, folded and not, shared and not, tells what they are; it is good.
func TestMadeOfQueries(t *testing.T) {
	r := rand.New(rand.NewPCG(18, 3))
	m, told := &sample.Maker{Pick: r.IntN}, map[api.Value]int{}
	for range 5000 {
		all := lists(t, m.Query())
		ks := looks(r, m.Script(12))
		for _, l := range all {
			if len(l) == 0 {
				continue
			}
			if r.IntN(3) == 0 {
				for i := range l {
					l[i] = fold.Node(l[i])
				}
			}
			for _, share := range []bool{false, true} {
				c, err := ssa.Make(l, share)
				if err != api.OK || !vm.Good(c) {
					t.Fatalf("%+v: %d, Good is %v: %+v", l, err, vm.Good(c), c)
				}
				for _, k := range ks {
					got := vm.Run(c, handed(c, k))
					if (got == sample.Bool(1)) != eval.All(l, k) || len(l) == 1 && got != eval.Node(l[0], k) {
						t.Fatalf("%+v in %+v: %v", l, k, got)
					}
					told[got]++
				}
			}
		}
	}
	if len(told) != 3 || told[api.Value{}] < 10000 || told[sample.Bool(0)] < 10000 || told[sample.Bool(1)] < 10000 {
		t.Errorf("%v", told)
	}
}

// bush is a condition of any kind, or of none, of constants of all kinds and of what events have.
func bush(r *rand.Rand, deep int) api.Node {
	if deep == 0 || r.IntN(5) == 0 {
		all := values()
		n := api.Node{Op: []int{api.Const, api.Cur, api.Of, api.Count, api.First, api.Last, api.Sum, api.Min, api.Max, api.Mean}[r.IntN(10)], Kind: 1 + r.IntN(4), Value: all[r.IntN(len(all))]}
		switch n.Op {
		case api.Const:
			return n
		case api.Cur:
		default:
			n.Pos = r.IntN(3)
		}
		if n.Op != api.Count {
			n.Attr = r.IntN(6) - 1
		}
		return n
	}
	n := api.Node{Op: api.OpAdd + r.IntN(api.OpNan), Kind: r.IntN(6), Args: []api.Node{bush(r, deep-1)}}
	if ofTwo(n.Op) {
		n.Args = append(n.Args, bush(r, deep-1))
	}
	return n
}

// P18.3: of conditions by hand, whatever their kinds; what has several lists of them is their joint.
func TestMadeByHand(t *testing.T) {
	r := rand.New(rand.NewPCG(18, 4))
	m, told := &sample.Maker{Pick: r.IntN}, map[int]int{}
	for range 20000 {
		l := []api.Node{bush(r, r.IntN(5))}
		for range r.IntN(3) * r.IntN(2) {
			l = append(l, bush(r, r.IntN(3)))
		}
		if r.IntN(3) == 0 {
			l = append(slices.Repeat([]api.Node{{Op: api.Const, Kind: api.Bool, Value: sample.Bool(1)}}, 1+r.IntN(3)), l...)
		}
		for _, share := range []bool{false, true} {
			c, err := ssa.Make(l, share)
			if err != api.OK {
				t.Fatalf("%+v: %d", l, err)
			}
			for _, k := range looks(r, m.Script(8)) {
				got := vm.Run(c, handed(c, k))
				if (got == sample.Bool(1)) != eval.All(l, k) || len(l) == 1 && got != eval.Node(l[0], k) {
					t.Fatalf("%+v in %+v: %v", l, k, got)
				}
				told[got.Kind]++
			}
		}
	}
	for kind := api.Poison; kind <= api.Real; kind++ {
		if told[kind] < 1000 {
			t.Errorf("the kind %d is told %d times", kind, told[kind])
		}
	}
}

// P18.3: plain code with fitting Inputs and clean Consts is good, as long as it isn't too long; what is dropped of it changes nothing that is told.
func TestPlainIsGood(t *testing.T) {
	r := rand.New(rand.NewPCG(18, 5))
	o, shorter, told := sample.Odd{Pick: r.IntN}, 0, map[int]int{}
	for range 30000 {
		c := o.Plain()
		d := ssa.Drop(c)
		if !ssa.Plain(c) || !vm.Good(c) || !vm.Good(d) {
			t.Fatalf("%+v: Plain is %v, Good is %v; dropped: %v", c, ssa.Plain(c), vm.Good(c), vm.Good(d))
		}
		of, all := map[api.Input]api.Value{}, values()
		for _, x := range c.Inputs {
			of[x] = all[r.IntN(len(all))]
		}
		handed := func(inputs []api.Input) []api.Value {
			l := []api.Value{}
			for _, x := range inputs {
				l = append(l, of[x])
			}
			return l
		}
		got, wanted := vm.Run(d, handed(d.Inputs)), vm.Run(c, handed(c.Inputs))
		if got != wanted {
			t.Fatalf("%+v tells %v, dropped %v: %+v", c, wanted, got, d)
		}
		if d.Regs < c.Regs {
			shorter++
		}
		told[got.Kind]++
	}
	if shorter < 10000 || len(told) < 5 {
		t.Errorf("shorter %d times; the kinds %v", shorter, told)
	}
	for _, count := range []int{1, 2, api.MaxCode - 1, api.MaxCode, api.MaxCode + 1, 3000} {
		c := api.Code{Regs: count, Consts: consts(1)}
		for reg := range count {
			c.List = append(c.List, load(reg, 0))
		}
		c.List = append(c.List, tell(count-1))
		if wanted := count+1 <= api.MaxCode; !ssa.Plain(c) || vm.Good(c) != wanted || vm.Run(ssa.Drop(c), nil) != sample.Int(0) {
			t.Errorf("%d registers: Plain is %v, Good is %v", count, ssa.Plain(c), vm.Good(c))
		}
	}
}
