package ssa

import (
	"auspice/api"
	"auspice/code"
)

// things are of one sort, none twice.
type things[T comparable] struct {
	all    []T
	places map[T]int
}

// placeIn is a thing's place in a list, behind which it is put, if it isn't there yet.
func placeIn[T comparable](l *things[T], x T) int {
	at, ok := l.places[x]
	if !ok {
		at = len(l.all)
		l.all = append(l.all, x)
		l.places[x] = at
	}
	return at
}

// writer writes plain code, a register an instruction.
type writer struct {
	list   []api.Ins
	inputs things[api.Input]
	consts things[api.Value]
}

func newWriter() writer {
	return writer{inputs: things[api.Input]{places: map[api.Input]int{}}, consts: things[api.Value]{places: map[api.Value]int{}}}
}

// write tells the register that the instruction writes here.
func (w *writer) write(i api.Ins) int {
	i.Dst = len(w.list)
	w.list = append(w.list, i)
	return i.Dst
}

func (w *writer) input(x api.Input) api.Ins {
	return api.Ins{Op: api.InsInput, A: placeIn(&w.inputs, x)}
}

func (w *writer) constant(v api.Value) api.Ins {
	return api.Ins{Op: api.InsConst, A: placeIn(&w.consts, v)}
}

// anew is an instruction of other code, became being what the registers of that one are here.
func (w *writer) anew(c api.Code, i api.Ins, became []int) api.Ins {
	switch {
	case i.Op == api.InsInput:
		return w.input(c.Inputs[i.A])
	case i.Op == api.InsConst:
		return w.constant(c.Consts[i.A])
	case code.Operands(i.Op) == 1:
		return api.Ins{Op: i.Op, A: became[i.A]}
	}
	return api.Ins{Op: i.Op, A: became[i.A], B: became[i.B]}
}

// whole is what is written, told being the register that is told.
func (w *writer) whole(told int) api.Code {
	list := append(w.list, api.Ins{Op: api.InsTell, A: told})
	return api.Code{Regs: len(w.list), Inputs: w.inputs.all, Consts: w.consts.all, List: list}
}
