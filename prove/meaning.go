package prove

import (
	"auspice/api"
	"auspice/code"
	"auspice/value"
	"auspice/vm"
)

// term is what a register or a slot holds, as a node. Terms share what they have in common: written out they may be far too great.
type term struct {
	api.Node
	count int // of its nodes; great for all that are more than there may be
}

const great = api.MaxCode + 1

// reading is code that is done with terms for values.
type reading struct {
	code        api.Code
	regs, slots []term
}

// meaning has Args that are shared.
func meaning(c api.Code) (api.Node, bool) {
	if !vm.Good(c) {
		return api.Node{}, false
	}
	r := reading{c, make([]term, c.Regs), make([]term, c.Slots)}
	for _, i := range c.List {
		r.do(i)
	}
	told := r.regs[c.List[len(c.List)-1].A]
	if told.count == great {
		return api.Node{}, false
	}
	return told.Node, true
}

// do relies on the code being Good: all that is named is there.
func (r *reading) do(i api.Ins) {
	switch i.Op {
	case api.InsTell:
	case api.InsInput:
		x := r.code.Inputs[i.A]
		r.regs[i.Dst] = term{api.Node{Op: x.Op, Kind: x.Kind, Pos: x.Pos, Attr: x.Attr}, 1}
	case api.InsConst:
		v := r.code.Consts[i.A]
		r.regs[i.Dst] = term{api.Node{Op: api.Const, Kind: v.Kind, Value: v}, 1}
	case api.InsStore:
		r.slots[i.A] = r.regs[i.B]
	case api.InsLoad:
		r.regs[i.Dst] = r.slots[i.A]
	default:
		r.regs[i.Dst] = r.operator(i)
	}
}

func (r *reading) operator(i api.Ins) term {
	t, kinds := term{api.Node{Op: i.Op}, 1}, []int{}
	for _, reg := range code.Reads(i) {
		arg := r.regs[reg]
		t.Args, kinds = append(t.Args, arg.Node), append(kinds, arg.Kind)
		t.count = min(t.count+arg.count, great)
	}
	t.Kind = value.Result(i.Op, kinds)
	return t
}
