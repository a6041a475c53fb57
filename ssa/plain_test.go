package ssa_test

import (
	"math"
	"math/rand/v2"
	"slices"
	"testing"

	"auspice/api"
	"auspice/sample"
	"auspice/ssa"
)

// plainByWords is what the chapter says, word by word.
func plainByWords(c api.Code) bool {
	if c.Slots != 0 || c.Regs < 1 || len(c.List) != c.Regs+1 {
		return false
	}
	for at, i := range c.List {
		for _, reg := range reads(i) {
			if reg < 0 || reg >= min(at, c.Regs) {
				return false
			}
		}
		right := false
		switch {
		case at == c.Regs:
			right = i.Op == api.InsTell && i.Dst == 0 && i.B == 0
		case operands(i.Op) == 2:
			right = i.Dst == at
		case operands(i.Op) == 1:
			right = i.Dst == at && i.B == 0
		case i.Op == api.InsInput:
			right = i.Dst == at && i.B == 0 && i.A >= 0 && i.A < len(c.Inputs)
		case i.Op == api.InsConst:
			right = i.Dst == at && i.B == 0 && i.A >= 0 && i.A < len(c.Consts)
		}
		if !right {
			return false
		}
	}
	return true
}

// widthByWords is what the chapter says, word by word, of plain code.
func widthByWords(c api.Code) int {
	width := 0
	for at := range c.Regs {
		count := 0
		for reg := range at + 1 {
			stillRead := slices.ContainsFunc(c.List[at+1:], func(i api.Ins) bool { return slices.Contains(reads(i), reg) })
			if stillRead || reg == at {
				count++
			}
		}
		width = max(width, count)
	}
	return width
}

// hand is plain code by hand: x + 1 < -x, of which the last register is told.
func hand() api.Code {
	return api.Code{Regs: 5, Inputs: []api.Input{{Op: api.Cur, Kind: api.Int}}, Consts: []api.Value{sample.Int(1)}, List: []api.Ins{
		{Op: api.InsInput}, {Op: api.InsConst, Dst: 1}, {Op: api.OpAdd, Dst: 2, A: 0, B: 1}, {Op: api.OpNeg, Dst: 3, A: 0}, {Op: api.OpLt, Dst: 4, A: 2, B: 3}, {Op: api.InsTell, A: 4},
	}}
}

// P17.2: what isn't asked for: the Inputs' and the Consts' form, what nothing hangs on, how long it is.
func TestPlain(t *testing.T) {
	for i, change := range []func(c *api.Code){
		func(c *api.Code) {},
		func(c *api.Code) { c.List[5].A = 0 },
		func(c *api.Code) { c.List[4].B = 2 },
		func(c *api.Code) { c.List[3].Op = api.OpNan },
		func(c *api.Code) { c.List[2].Op = api.OpAnd },
		func(c *api.Code) { c.Inputs[0] = api.Input{Op: -3, Kind: 99, Pos: -1, Attr: math.MinInt} },
		func(c *api.Code) { c.Inputs = append(c.Inputs, c.Inputs[0], api.Input{}) },
		func(c *api.Code) { c.Consts[0] = api.Value{Kind: 9, Bits: 9} },
		func(c *api.Code) { c.Consts = append(c.Consts, c.Consts[0], api.Value{}) },
		func(c *api.Code) { c.Regs, c.List = 1, []api.Ins{c.List[0], {Op: api.InsTell}} },
		func(c *api.Code) { c.Regs, c.List = 1, []api.Ins{c.List[1], {Op: api.InsTell}}; c.List[0].Dst = 0 },
	} {
		c := hand()
		change(&c)
		if !ssa.Plain(c) || ssa.Width(c) == 0 || none(ssa.Drop(c)) {
			t.Errorf("the change %d: not plain: %+v", i, c)
		}
	}
}

// P17.2: one thing that is otherwise, and the code isn't plain; its Width is 0 then.
func TestNotPlain(t *testing.T) {
	far := []int{math.MinInt, -1, math.MaxInt}
	changes := []func(c *api.Code){
		func(c *api.Code) { *c = api.Code{} },
		func(c *api.Code) { c.List = nil },
		func(c *api.Code) { c.Slots = 1 },
		func(c *api.Code) { c.Regs, c.List = 0, []api.Ins{{Op: api.InsTell}} },
		func(c *api.Code) { c.Regs, c.List = -1, nil },
		func(c *api.Code) { c.Regs = 4 },
		func(c *api.Code) { c.Regs = 6 },
		func(c *api.Code) { c.Regs, c.List = 4, c.List[:5] },
		func(c *api.Code) { c.List = c.List[:5] },
		func(c *api.Code) { c.List = append(c.List, c.List[5]) },
		func(c *api.Code) { c.Regs, c.List = 6, append(c.List, c.List[5]) },
		func(c *api.Code) { c.List[0], c.List[1] = c.List[1], c.List[0] },
		func(c *api.Code) { c.List[0].A = 1 },
		func(c *api.Code) { c.List[0].B = 1 },
		func(c *api.Code) { c.List[1].A = 1 },
		func(c *api.Code) { c.List[1].B = 1 },
		func(c *api.Code) { c.List[2].Dst = 3 },
		func(c *api.Code) { c.List[2].A = 2 },
		func(c *api.Code) { c.List[2].B = 2 },
		func(c *api.Code) { c.List[2].B = 3 },
		func(c *api.Code) { c.List[2].Op = api.OpNeg },
		func(c *api.Code) { c.List[3].A = 3 },
		func(c *api.Code) { c.List[3].B = 1 },
		func(c *api.Code) { c.List[3].Op = api.InsTell },
		func(c *api.Code) { c.List[3] = api.Ins{Op: api.InsTell} },
		func(c *api.Code) { c.List[3] = api.Ins{Op: api.InsStore} },
		func(c *api.Code) { c.List[3] = api.Ins{Op: api.InsLoad, Dst: 3} },
		func(c *api.Code) { c.List[3] = api.Ins{Op: api.Cur, Dst: 3} },
		func(c *api.Code) { c.List[3] = api.Ins{Dst: 3} },
		func(c *api.Code) { c.List[3].Op = -3 },
		func(c *api.Code) { c.List[3].Op = 18 },
		func(c *api.Code) { c.List[3].Op = math.MinInt },
		func(c *api.Code) { c.List[5].Dst = 5 },
		func(c *api.Code) { c.List[5].A = 5 },
		func(c *api.Code) { c.List[5].B = 1 },
		func(c *api.Code) { c.List[5] = api.Ins{Op: api.OpNot, Dst: 5, A: 4} },
		func(c *api.Code) { c.List[5] = api.Ins{Op: api.OpNot, A: 4} },
		func(c *api.Code) { c.Inputs = nil },
		func(c *api.Code) { c.Consts = nil },
	}
	for _, n := range far {
		changes = append(changes, func(c *api.Code) { c.Slots = n }, func(c *api.Code) { c.Regs = n })
		for at := range 6 {
			changes = append(changes, func(c *api.Code) { c.List[at].Dst = n }, func(c *api.Code) { c.List[at].A = n }, func(c *api.Code) { c.List[at].B = n })
		}
	}
	for i, change := range changes {
		c := hand()
		change(&c)
		if ssa.Plain(c) || ssa.Width(c) != 0 {
			t.Errorf("the change %d: plain, of the width %d: %+v", i, ssa.Width(c), c)
		}
		ssa.Drop(c)
	}
}

// P17.2, P1: code of all sorts, against the chapter's words.
func TestPlainRandom(t *testing.T) {
	o, plain := sample.Odd{Pick: rand.New(rand.NewPCG(17, 5)).IntN}, map[bool]int{}
	for range 60000 {
		c := o.Code()
		before := dump(c)
		wanted := plainByWords(c)
		if ssa.Plain(c) != wanted {
			t.Fatalf("Plain of %+v", c)
		}
		width := 0
		if wanted {
			width = widthByWords(c)
		}
		if got := ssa.Width(c); got != width {
			t.Fatalf("Width of %+v: %d, wanted %d", c, got, width)
		}
		ssa.Drop(c)
		if dump(c) != before {
			t.Fatalf("%s became %+v", before, c)
		}
		plain[wanted]++
	}
	if plain[true] < 5000 || plain[false] < 5000 {
		t.Errorf("plain are %v", plain)
	}
}

// P17.2: the chapter's example, and widths told one by one.
func TestWidth(t *testing.T) {
	x, y, one := leaf(api.Of, api.Int, 0, 0), leaf(api.Of, api.Int, 0, 1), constant(1)
	for i, c := range []struct {
		l      []api.Node
		share  bool
		wanted int
	}{
		{[]api.Node{of(api.OpLt, of(api.OpAdd, x, one), of(api.OpAdd, x, constant(2)))}, true, 3},
		{[]api.Node{of(api.OpLt, of(api.OpAdd, x, one), of(api.OpAdd, x, constant(2)))}, false, 3},
		{[]api.Node{x}, true, 1},
		{[]api.Node{of(api.OpNot, x)}, true, 1},
		{[]api.Node{sample.Far(api.OpNot, 90, x)}, true, 1},
		{[]api.Node{of(api.OpAnd, x, x)}, true, 1},
		{[]api.Node{of(api.OpAnd, x, x)}, false, 2},
		{[]api.Node{x, y}, true, 2},
		{[]api.Node{x, y, one, constant(2), constant(3)}, true, 2},
		{[]api.Node{of(api.OpAnd, x, of(api.OpAnd, y, of(api.OpAnd, one, constant(2))))}, true, 4},
		{[]api.Node{sample.Shared(api.OpOr, 50, x)}, true, 1},
		{[]api.Node{sample.Shared(api.OpOr, 7, x)}, false, 8},
	} {
		made, err := ssa.Make(c.l, c.share)
		if got := ssa.Width(made); err != api.OK || got != c.wanted || got != widthByWords(made) {
			t.Errorf("%d: %d, wanted %d", i, got, c.wanted)
		}
	}
	c := hand()
	c.List[5].A = 0 // what is told waits from the beginning on, what isn't read is still written
	if ssa.Width(c) != 3 {
		t.Errorf("%d", ssa.Width(c))
	}
	c.List[4].A, c.List[4].B = 0, 0
	c.List[3].A, c.List[2].B = 1, 0
	c.List[5].A = 1
	if ssa.Width(c) != 3 || widthByWords(c) != 3 {
		t.Errorf("%d", ssa.Width(c))
	}
}

// P1, P17.2, P17.3: plain code that is far longer than any that is run.
func TestLongCode(t *testing.T) {
	c := api.Code{Regs: 300000}
	for at := range c.Regs {
		switch {
		case at%3 == 0:
			c.Inputs = append(c.Inputs, api.Input{Pos: at % 7, Attr: at})
			c.List = append(c.List, api.Ins{Op: api.InsInput, Dst: at, A: at / 3})
		case at%3 == 1:
			c.Consts = append(c.Consts, sample.Int(int64(at)))
			c.List = append(c.List, api.Ins{Op: api.InsConst, Dst: at, A: at / 3})
		default:
			c.List = append(c.List, api.Ins{Op: api.OpAnd, Dst: at, A: at - 2, B: at - 1})
		}
	}
	c.List = append(c.List, api.Ins{Op: api.InsTell, A: 2})
	if !ssa.Plain(c) || ssa.Width(c) != 3 {
		t.Errorf("the width %d", ssa.Width(c))
	}
	if d := ssa.Drop(c); d.Regs != 3 || len(d.Inputs) != 1 || len(d.Consts) != 1 {
		t.Errorf("%+v", d)
	}
	for at := 2; at < c.Regs; at += 3 {
		c.List[at].A = max(0, at-3)
	}
	c.List[c.Regs].A = c.Regs - 1
	if d := ssa.Drop(c); d.Regs != 200001 || len(d.Inputs) != 1 || len(d.Consts) != 100000 || !ssa.Plain(d) {
		t.Errorf("%d registers", d.Regs)
	}
}
