package image

import "auspice/api"

// What follows says the order in which a table's things stand, once for both ways.

// list carries a list of any sort. One that is read begins without things, and gets them one by one, so that no more memory is taken than there are bytes for.
func list[T any](c carrier, l *[]T, each func(c carrier, x *T)) {
	for at := range c.count(len(*l)) {
		if at == len(*l) {
			*l = append(*l, *new(T))
		}
		each(c, &(*l)[at])
	}
}

func numbers(c carrier, l *[]int) {
	list(c, l, carrier.number)
}

func table(c carrier, t *api.Table) {
	c.number(&t.Strategy)
	numbers(c, &t.Keys)
	list(c, &t.Kinds, numbers)
	c.number(&t.Syms)
	c.number(&t.Runs)
	c.number(&t.Cells)
	list(c, &t.States, row)
	list(c, &t.Codes, code)
}

func row(c carrier, r *api.Row) {
	c.number(&r.Parent)
	c.number(&r.Type)
	c.truth(&r.Many)
	c.time(&r.Window)
	list(c, &r.Bars, stop)
	c.number(&r.Leave)
	c.number(&r.Guard)
	list(c, &r.Ends, tail)
}

func stop(c carrier, s *api.Stop) {
	c.number(&s.Type)
	c.number(&s.Guard)
}

func tail(c carrier, t *api.Tail) {
	c.number(&t.Branch)
	c.number(&t.Close)
	list(c, &t.Bars, stop)
}

func code(c carrier, x *api.Code) {
	c.number(&x.Regs)
	c.number(&x.Slots)
	list(c, &x.Inputs, input)
	list(c, &x.Consts, value)
	list(c, &x.List, ins)
}

func input(c carrier, x *api.Input) {
	c.number(&x.Op)
	c.number(&x.Kind)
	c.number(&x.Pos)
	c.number(&x.Attr)
}

func value(c carrier, v *api.Value) {
	c.number(&v.Kind)
	c.bits(&v.Bits)
}

func ins(c carrier, i *api.Ins) {
	c.number(&i.Op)
	c.number(&i.Dst)
	c.number(&i.A)
	c.number(&i.B)
}
