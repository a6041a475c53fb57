package sample

import "auspice/api"

// Plain is plain code of few registers that vm finds good; some inputs and constants stand twice in it, some are named by nothing, and on some registers nothing hangs.
func (o Odd) Plain() api.Code {
	c := api.Code{Regs: 1 + o.Pick(14)}
	for range 1 + o.Pick(4) {
		c.Inputs = append(c.Inputs, o.input())
		c.Consts = append(c.Consts, []api.Value{Int(0), Int(3), Bool(0), Bool(1), Real(One), Real(NaN), Sym(1), {}}[o.Pick(8)])
	}
	for at := range c.Regs {
		c.List = append(c.List, o.ins(c, at))
	}
	c.List = append(c.List, api.Ins{Op: api.InsTell, A: c.Regs - 1 - o.Pick(min(3, c.Regs))})
	return c
}

func (o Odd) input() api.Input {
	x := api.Input{Op: []int{api.Cur, api.Of, api.Count, api.First, api.Mean}[o.Pick(5)], Kind: api.Int + o.Pick(2)}
	if x.Op != api.Cur {
		x.Pos = o.Pick(2)
	}
	if x.Op != api.Count {
		x.Attr = o.Pick(2) - 1
	}
	return x
}

// ins is an instruction of c that writes the register at, and reads such as are ahead of it.
func (o Odd) ins(c api.Code, at int) api.Ins {
	if at == 0 || o.Pick(3) == 0 {
		if o.Pick(2) == 0 {
			return api.Ins{Op: api.InsConst, Dst: at, A: o.Pick(len(c.Consts))}
		}
		return api.Ins{Op: api.InsInput, Dst: at, A: o.Pick(len(c.Inputs))}
	}
	i := api.Ins{Op: []int{api.OpAnd, api.OpOr, api.OpNot, api.OpEq, api.OpLe, api.OpAdd, api.OpMul, api.OpNeg, api.OpReal, api.OpNan}[o.Pick(10)], Dst: at, A: o.Pick(at)}
	switch i.Op {
	case api.OpNot, api.OpNeg, api.OpReal, api.OpNan:
	default:
		i.B = o.Pick(at)
	}
	return i
}

// Code is plain but for what is changed in it, if anything is.
func (o Odd) Code() api.Code {
	c := o.Plain()
	if o.Pick(2) == 0 {
		c = o.withSlots(c)
	}
	for range o.Pick(4) {
		o.spoil(&c)
	}
	return c
}

// withSlots puts instructions of slots into the list.
func (o Odd) withSlots(c api.Code) api.Code {
	c.Slots = 1 + o.Pick(3)
	l := []api.Ins{}
	for at, i := range c.List {
		for range o.Pick(3) * min(at, 1) {
			if o.Pick(2) == 0 {
				l = append(l, api.Ins{Op: api.InsStore, A: o.Pick(c.Slots), B: o.Pick(at)})
			} else {
				l = append(l, api.Ins{Op: api.InsLoad, Dst: o.Pick(at), A: o.Pick(c.Slots)})
			}
		}
		l = append(l, i)
	}
	c.List = l
	return c
}

// spoil changes one thing.
func (o Odd) spoil(c *api.Code) {
	at := o.Pick(len(c.List))
	i := &c.List[at]
	ops := []int{-1, 0, api.OpAdd, api.OpAnd, api.OpNot, api.OpNan, 18, api.Const, 49, api.InsInput, api.InsConst, api.InsTell, api.InsStore, api.InsLoad, 55, 1 << 40}
	switch o.Pick(12) {
	case 0:
		i.Op = ops[o.Pick(len(ops))]
	case 1:
		i.Dst = o.Number()
	case 2:
		i.A = o.Number()
	case 3:
		i.B = o.Number()
	case 4:
		c.List[at], c.List[0] = c.List[0], c.List[at]
	case 5:
		c.List = append(c.List[:at:at], c.List[min(at+1, len(c.List)-1):]...)
	case 6:
		c.Regs += o.Pick(3) - 1
	case 7:
		c.Regs = o.Number()
	case 8:
		c.Slots = o.Number()
	case 9:
		c.Inputs = c.Inputs[:o.Pick(len(c.Inputs)+1)]
	case 10:
		c.Consts = c.Consts[:o.Pick(len(c.Consts)+1)]
	case 11:
		c.Consts = append(c.Consts, Bool(uint64(o.Pick(3))))
		c.Inputs = append(c.Inputs, api.Input{Op: ops[o.Pick(len(ops))], Kind: o.Number(), Pos: o.Number(), Attr: o.Number()})
	}
}
