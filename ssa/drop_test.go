package ssa_test

import (
	"math/rand/v2"
	"slices"
	"testing"

	"auspice/api"
	"auspice/sample"
	"auspice/ssa"
)

// dropByWords is what the chapter says, word by word, of plain code.
func dropByWords(c api.Code) api.Code {
	kept := []int{c.List[c.Regs].A}
	for at := 0; at < len(kept); at++ {
		for _, reg := range reads(c.List[kept[at]]) {
			if !slices.Contains(kept, reg) {
				kept = append(kept, reg)
			}
		}
	}
	slices.Sort(kept)
	d := api.Code{Regs: len(kept)}
	for anew, reg := range kept {
		i := api.Ins{Op: c.List[reg].Op, Dst: anew}
		switch i.Op {
		case api.InsInput:
			x := c.Inputs[c.List[reg].A]
			if !slices.Contains(d.Inputs, x) {
				d.Inputs = append(d.Inputs, x)
			}
			i.A = slices.Index(d.Inputs, x)
		case api.InsConst:
			v := c.Consts[c.List[reg].A]
			if !slices.Contains(d.Consts, v) {
				d.Consts = append(d.Consts, v)
			}
			i.A = slices.Index(d.Consts, v)
		default:
			i.A = slices.Index(kept, c.List[reg].A)
			if operands(i.Op) == 2 {
				i.B = slices.Index(kept, c.List[reg].B)
			}
		}
		d.List = append(d.List, i)
	}
	d.List = append(d.List, api.Ins{Op: api.InsTell, A: slices.Index(kept, c.List[c.Regs].A)})
	return d
}

// P17.3: what is kept, told instruction by instruction.
func TestDrop(t *testing.T) {
	x, y := api.Input{Op: api.Cur, Kind: api.Int}, api.Input{Op: api.Of, Kind: api.Int, Pos: 1, Attr: 2}
	one, two := sample.Int(1), sample.Int(2)
	c := api.Code{Regs: 9, Inputs: []api.Input{x, y, x, {Op: api.Count}}, Consts: []api.Value{two, one, two}, List: []api.Ins{
		{Op: api.InsInput, Dst: 0, A: 3},
		{Op: api.InsInput, Dst: 1, A: 1},
		{Op: api.InsConst, Dst: 2, A: 1},
		{Op: api.InsInput, Dst: 3, A: 2},
		{Op: api.InsInput, Dst: 4, A: 0},
		{Op: api.OpAdd, Dst: 5, A: 4, B: 2},
		{Op: api.OpAdd, Dst: 6, A: 3, B: 1},
		{Op: api.OpNeg, Dst: 7, A: 6},
		{Op: api.InsConst, Dst: 8, A: 0},
		{Op: api.InsTell, A: 7},
	}}
	wantCode(t, "half of it", ssa.Drop(c), api.Code{Regs: 4, Inputs: []api.Input{y, x}, List: []api.Ins{
		{Op: api.InsInput, Dst: 0, A: 0},
		{Op: api.InsInput, Dst: 1, A: 1},
		{Op: api.OpAdd, Dst: 2, A: 1, B: 0},
		{Op: api.OpNeg, Dst: 3, A: 2},
		{Op: api.InsTell, A: 3},
	}})
	// inputs that are one, and instructions that are alike then, stay
	c.List[8] = api.Ins{Op: api.OpEq, Dst: 8, A: 7, B: 5}
	c.List[9].A = 8
	wantCode(t, "all but one", ssa.Drop(c), api.Code{Regs: 8, Inputs: []api.Input{y, x}, Consts: []api.Value{one}, List: []api.Ins{
		{Op: api.InsInput, Dst: 0, A: 0},
		{Op: api.InsConst, Dst: 1, A: 0},
		{Op: api.InsInput, Dst: 2, A: 1},
		{Op: api.InsInput, Dst: 3, A: 1},
		{Op: api.OpAdd, Dst: 4, A: 3, B: 1},
		{Op: api.OpAdd, Dst: 5, A: 2, B: 0},
		{Op: api.OpNeg, Dst: 6, A: 5},
		{Op: api.OpEq, Dst: 7, A: 6, B: 4},
		{Op: api.InsTell, A: 7},
	}})
	// constants that are alike by their bits alone are two
	c.Consts[2] = sample.Real(2)
	c.List[7], c.List[8] = api.Ins{Op: api.InsConst, Dst: 7, A: 2}, api.Ins{Op: api.InsConst, Dst: 8, A: 0}
	c.Regs, c.List = 10, append(c.List[:9], api.Ins{Op: api.OpOr, Dst: 9, A: 8, B: 7}, api.Ins{Op: api.InsTell, A: 9})
	wantCode(t, "constants", ssa.Drop(c), api.Code{Regs: 3, Consts: []api.Value{sample.Real(2), two}, List: []api.Ins{
		{Op: api.InsConst, Dst: 0, A: 0},
		{Op: api.InsConst, Dst: 1, A: 1},
		{Op: api.OpOr, Dst: 2, A: 1, B: 0},
		{Op: api.InsTell, A: 2},
	}})
	c.List[10].A = 0
	wantCode(t, "one input", ssa.Drop(c), api.Code{Regs: 1, Inputs: []api.Input{{Op: api.Count}}, List: []api.Ins{{Op: api.InsInput}, {Op: api.InsTell}}})
	c.List[10].A = 2
	wantCode(t, "one constant", ssa.Drop(c), api.Code{Regs: 1, Consts: []api.Value{one}, List: []api.Ins{{Op: api.InsConst}, {Op: api.InsTell}}})
}

// P17.3: plain code of all sorts, against the chapter's words; what is dropped so, stays.
func TestDropRandom(t *testing.T) {
	o, shorter := sample.Odd{Pick: rand.New(rand.NewPCG(17, 6)).IntN}, 0
	for range 30000 {
		c := o.Plain()
		c.List = append(make([]api.Ins, 0, 40), c.List...)
		before, spare := dump(c), dump(c.List[:cap(c.List)])
		d, again := ssa.Drop(c), ssa.Drop(c)
		wantCode(t, before, d, dropByWords(c))
		if !ssa.Plain(d) || dump(ssa.Drop(d)) != dump(d) {
			t.Fatalf("%+v isn't plain, or becomes %+v", d, ssa.Drop(d))
		}
		if d.Regs < c.Regs {
			shorter++
		}
		if dump(c) != before || dump(c.List[:cap(c.List)]) != spare || !sample.Once(codeRooms(c), codeRooms(d), codeRooms(again)) {
			t.Fatalf("%s is changed, or shares memory", before)
		}
	}
	if shorter < 10000 {
		t.Errorf("shorter %d times", shorter)
	}
}

// P17.1, P17.3: of what is made nothing is dropped.
func TestDropNothing(t *testing.T) {
	r := rand.New(rand.NewPCG(17, 7))
	for range 5000 {
		l := []api.Node{}
		for range 1 + r.IntN(4) {
			l = append(l, bush(r, 1+r.IntN(9), false))
		}
		for _, share := range []bool{false, true} {
			c, _ := ssa.Make(l, share)
			wantCode(t, "dropped", ssa.Drop(c), c)
		}
	}
}
