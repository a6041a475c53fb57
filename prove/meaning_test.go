package prove_test

import (
	"math/rand/v2"
	"testing"

	"auspice/alloc"
	"auspice/api"
	"auspice/prove"
	"auspice/sample"
	"auspice/ssa"
	"auspice/vm"
)

// P25.1: leaves, constants and operators, registers and slots, and what nothing hangs on.
func TestMeaning(t *testing.T) {
	inputs := []api.Input{{Op: api.Cur, Kind: api.Int, Attr: -1}, {Op: api.Of, Kind: api.Real, Pos: 2, Attr: 1}, {Op: api.Count, Kind: api.Int, Pos: 7}, {Op: api.Mean, Kind: api.Real, Pos: 1, Attr: 7}}
	consts := []api.Value{sample.Int(7), sample.Bool(1), sample.Sym(63), sample.Real(sample.NaN), {}}
	cur, one, count, mean := leaf(api.Cur, api.Int, 0, -1), leaf(api.Of, api.Real, 2, 1), leaf(api.Count, api.Int, 7, 0), leaf(api.Mean, api.Real, 1, 7)
	seven, yes, sym, nan, poison := constant(consts[0]), constant(consts[1]), constant(consts[2]), constant(consts[3]), api.Node{Op: api.Const}
	input := func(dst, at int) api.Ins { return api.Ins{Op: api.InsInput, Dst: dst, A: at} }
	number := func(dst, at int) api.Ins { return api.Ins{Op: api.InsConst, Dst: dst, A: at} }
	store := func(slot, reg int) api.Ins { return api.Ins{Op: api.InsStore, A: slot, B: reg} }
	fetch := func(dst, slot int) api.Ins { return api.Ins{Op: api.InsLoad, Dst: dst, A: slot} }
	do := func(op, dst, a, b int) api.Ins { return api.Ins{Op: op, Dst: dst, A: a, B: b} }
	for what, c := range map[string]struct {
		wanted api.Node
		list   []api.Ins
	}{
		"a Cur":                         {cur, []api.Ins{input(0, 0), tell(0)}},
		"an Of":                         {one, []api.Ins{input(3, 1), tell(3)}},
		"a Count":                       {count, []api.Ins{input(0, 2), tell(0)}},
		"a Mean":                        {mean, []api.Ins{input(0, 3), tell(0)}},
		"an Int":                        {seven, []api.Ins{number(0, 0), tell(0)}},
		"a Bool":                        {yes, []api.Ins{number(0, 1), tell(0)}},
		"a Sym":                         {sym, []api.Ins{number(0, 2), tell(0)}},
		"a Real":                        {nan, []api.Ins{number(0, 3), tell(0)}},
		"poison":                        {poison, []api.Ins{number(0, 4), tell(0)}},
		"of one":                        {of(api.OpNan, api.Bool, one), []api.Ins{input(1, 1), do(api.OpNan, 0, 1, 0), tell(0)}},
		"of two":                        {of(api.OpSub, api.Int, cur, seven), []api.Ins{input(0, 0), number(1, 0), do(api.OpSub, 2, 0, 1), tell(2)}},
		"turned round":                  {of(api.OpSub, api.Int, seven, cur), []api.Ins{input(0, 0), number(1, 0), do(api.OpSub, 2, 1, 0), tell(2)}},
		"of itself":                     {of(api.OpMul, api.Real, mean, mean), []api.Ins{input(0, 3), do(api.OpMul, 0, 0, 0), tell(0)}},
		"of itself, of one":             {of(api.OpNot, api.Bool, yes), []api.Ins{number(0, 1), do(api.OpNot, 0, 0, 0), tell(0)}},
		"of what has no kind":           {of(api.OpNot, api.Poison, of(api.OpAnd, api.Poison, yes, seven)), []api.Ins{number(0, 1), number(1, 0), do(api.OpAnd, 0, 0, 1), do(api.OpNot, 0, 0, 0), tell(0)}},
		"kinds that don't go together":  {of(api.OpAdd, api.Poison, cur, one), []api.Ins{input(0, 0), input(1, 1), do(api.OpAdd, 2, 0, 1), tell(2)}},
		"a kind of another kind":        {of(api.OpNot, api.Poison, seven), []api.Ins{number(0, 0), do(api.OpNot, 0, 0, 0), tell(0)}},
		"of poison":                     {of(api.OpEq, api.Poison, poison, seven), []api.Ins{number(0, 4), number(1, 0), do(api.OpEq, 2, 0, 1), tell(2)}},
		"Ints held together":            {of(api.OpLe, api.Bool, count, seven), []api.Ins{input(0, 2), number(1, 0), do(api.OpLe, 1, 0, 1), tell(1)}},
		"an Int made Real":              {of(api.OpDiv, api.Real, of(api.OpReal, api.Real, seven), nan), []api.Ins{number(0, 0), do(api.OpReal, 0, 0, 0), number(1, 3), do(api.OpDiv, 0, 0, 1), tell(0)}},
		"written again":                 {seven, []api.Ins{input(0, 0), number(0, 0), tell(0)}},
		"read, then written again":      {of(api.OpAdd, api.Int, cur, seven), []api.Ins{input(0, 0), number(1, 0), do(api.OpAdd, 2, 0, 1), number(0, 1), tell(2)}},
		"nothing hangs on":              {cur, []api.Ins{input(0, 0), number(1, 0), do(api.OpAdd, 2, 0, 1), store(0, 2), tell(0)}},
		"of a slot":                     {cur, []api.Ins{input(0, 0), store(2, 0), number(0, 0), fetch(1, 2), tell(1)}},
		"of a slot that is held again":  {of(api.OpMul, api.Int, cur, seven), []api.Ins{input(0, 0), store(1, 0), number(0, 0), fetch(1, 1), store(1, 0), fetch(0, 1), do(api.OpMul, 3, 1, 0), tell(3)}},
		"of slots, a register between":  {one, []api.Ins{input(0, 1), store(0, 0), fetch(1, 0), store(1, 1), input(0, 0), store(0, 0), fetch(3, 1), tell(3)}},
		"a slot of what is made, twice": {of(api.OpEq, api.Bool, of(api.OpNeg, api.Int, cur), of(api.OpNeg, api.Int, cur)), []api.Ins{input(0, 0), do(api.OpNeg, 0, 0, 0), store(0, 0), fetch(1, 0), do(api.OpEq, 0, 0, 1), tell(0)}},
	} {
		wantMeaning(t, what, api.Code{Regs: 4, Slots: 3, Inputs: inputs, Consts: consts, List: c.list}, c.wanted)
	}
}

// P25.1: code that isn't Good has no meaning.
func TestNoMeaning(t *testing.T) {
	good := func() api.Code {
		return api.Code{Regs: 2, Slots: 1, Inputs: []api.Input{{Op: api.Cur, Kind: api.Int}}, Consts: []api.Value{sample.Int(1)}, List: []api.Ins{{Op: api.InsInput}, {Op: api.InsStore, A: 0, B: 0}, {Op: api.InsConst, Dst: 1}, {Op: api.OpAdd, A: 0, B: 1}, tell(0)}}
	}
	wantMeaning(t, "good", good(), of(api.OpAdd, api.Int, leaf(api.Cur, api.Int, 0, 0), constant(sample.Int(1))))
	wantNoMeaning(t, "no code", api.Code{})
	for i, change := range []func(c *api.Code){
		func(c *api.Code) { c.Regs = 0 },
		func(c *api.Code) { c.Regs = 1 },
		func(c *api.Code) { c.Regs = api.MaxCode + 1 },
		func(c *api.Code) { c.Slots = 0 },
		func(c *api.Code) { c.Slots = api.MaxSlots + 1 },
		func(c *api.Code) { c.Inputs = nil },
		func(c *api.Code) { c.Inputs[0].Op = api.Const },
		func(c *api.Code) { c.Inputs[0].Kind = api.Poison },
		func(c *api.Code) { c.Consts = nil },
		func(c *api.Code) { c.Consts[0] = sample.Bool(2) },
		func(c *api.Code) { c.List = nil },
		func(c *api.Code) { c.List = c.List[:4] },
		func(c *api.Code) { c.List = append(c.List, tell(0)) },
		func(c *api.Code) { c.List = append([]api.Ins{tell(0)}, c.List...) },
		func(c *api.Code) { c.List[0].B = 1 },
		func(c *api.Code) { c.List[1].Dst = 1 },
		func(c *api.Code) { c.List[2].Op = api.Const },
		func(c *api.Code) { c.List[2] = api.Ins{Op: api.InsLoad, Dst: 1, A: 1} },
		func(c *api.Code) { c.List[3].A = 2 },
		func(c *api.Code) { c.List[3].B = -1 },
		func(c *api.Code) { c.List = c.List[2:] },
		func(c *api.Code) { c.List[4].A = 7 },
		func(c *api.Code) { c.List[4].Dst = 1 },
	} {
		c := good()
		change(&c)
		wantNoMeaning(t, "the change "+string(rune('a'+i)), c)
	}
}

// doubled is code of a constant, added to itself so many times, then turned so many times.
func doubled(adds, turns int) api.Code {
	c := api.Code{Regs: 1, Consts: []api.Value{sample.Int(1)}, List: []api.Ins{{Op: api.InsConst}}}
	for range adds {
		c.List = append(c.List, api.Ins{Op: api.OpAdd})
	}
	for range turns {
		c.List = append(c.List, api.Ins{Op: api.OpNeg})
	}
	c.List = append(c.List, tell(0))
	return c
}

// P25.1: of as many nodes as may be, and of more; what isn't told may have any number.
func TestMeaningLength(t *testing.T) {
	for _, x := range []struct{ adds, turns, nodes int }{{0, 0, 1}, {9, 0, 1023}, {9, 1, 1024}, {9, 2, 1025}, {10, 0, 2047}, {8, 512, 1023}, {8, 513, 1024}, {8, 514, 1025}, {0, 1022, 1023}, {62, 0, 9999}, {63, 0, 9999}, {64, 0, 9999}, {1022, 0, 9999}} {
		c := doubled(x.adds, x.turns)
		if !vm.Good(c) {
			t.Fatalf("%+v: not good", x)
		}
		if x.nodes > api.MaxCode {
			wantNoMeaning(t, dump(x), c)
			continue
		}
		wanted, ok := toldBy(c)
		if !ok {
			t.Fatalf("%+v: too long", x)
		}
		wantMeaning(t, dump(x), c, wanted)
	}
	c := doubled(1000, 0)
	c.Regs, c.List[1000] = 2, api.Ins{Op: api.InsConst, Dst: 1}
	c.List[len(c.List)-1].A = 1
	wantMeaning(t, "what is told is short", c, constant(sample.Int(1)))
}

// thick is code in which what is made soon has very many nodes.
func thick(pick func(n int) int) api.Code {
	c := api.Code{Regs: 4, Consts: []api.Value{sample.Int(1), sample.Bool(1)}, List: []api.Ins{{Op: api.InsConst}, {Op: api.InsConst, Dst: 1, A: 1}, {Op: api.InsConst, Dst: 2}, {Op: api.InsConst, Dst: 3}}}
	for range pick(60) {
		c.List = append(c.List, api.Ins{Op: api.OpAdd + pick(5), Dst: pick(4), A: pick(4), B: pick(4)})
	}
	c.List = append(c.List, tell(pick(4)))
	return c
}

// P25.1: of code of all sorts: plain, fitted, spoilt, too long.
func TestMeaningRandom(t *testing.T) {
	o := sample.Odd{Pick: rand.New(rand.NewPCG(25, 1)).IntN}
	met := map[string]int{}
	for range 40000 {
		c := o.Code()
		if o.Pick(4) == 0 {
			c = thick(o.Pick)
		}
		if !vm.Good(c) {
			met["bad"]++
			wantNoMeaning(t, "not good", c)
			continue
		}
		wanted, ok := toldBy(c)
		if !ok {
			met["long"]++
			wantNoMeaning(t, "too long", c)
			continue
		}
		met["good"]++
		wantMeaning(t, "good", c, wanted)
		if fitted, err := alloc.Fit(c, 2+o.Pick(3)); err == api.OK {
			met["fitted"]++
			wantMeaning(t, "fitted", fitted, wanted)
		}
	}
	if met["bad"] < 10000 || met["long"] < 100 || met["good"] < 10000 || met["fitted"] < 5000 {
		t.Errorf("%v", met)
	}
}

// P25.1, P25.2: code means the chain of the conditions that it is made of, whatever their kinds, with or without sharing, for few or many registers.
func TestMeaningOfMade(t *testing.T) {
	m := &sample.Maker{Pick: rand.New(rand.NewPCG(25, 2)).IntN}
	several := 0
	for range 3000 {
		p, ok := sample.Planned(m.Query())
		if !ok {
			continue
		}
		for _, b := range p.Branches {
			for _, part := range b.Parts {
				l := append(part.Guards, part.Closes...)
				wanted, ok := prove.Chain(l)
				if !ok {
					continue
				}
				for regs := 2; regs < 6; regs++ {
					c, err := ssa.Make(l, regs%2 == 0)
					fitted, fitErr := alloc.Fit(c, regs)
					if err != api.OK || fitErr != api.OK {
						t.Fatalf("no code: %d, %d: %+v", err, fitErr, l)
					}
					wantMeaning(t, "made", c, wanted)
					wantMeaning(t, "fitted", fitted, wanted)
				}
				several += len(l) / 2
			}
		}
	}
	if several < 1000 {
		t.Errorf("%d of several conditions", several)
	}
}

// The rules on memory: no two lists of an answer are one, and none is another answer's.
func TestMeaningMemory(t *testing.T) {
	c := doubled(9, 1)
	one, _ := prove.Meaning(c)
	other, _ := prove.Meaning(c)
	if !sample.Apart([][]api.Node{one.Args}, [][]api.Node{other.Args}) {
		t.Error("meanings share memory")
	}
	before := dump(other)
	for _, room := range sample.Rooms(one.Args) {
		*room = api.Node{Op: 99}
	}
	again, ok := prove.Meaning(c)
	if dump(other) != before || dump(again) != before || !ok {
		t.Error("a meaning is kept")
	}
}
