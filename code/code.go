// Package code takes instructions for what they name: registers, slots, inputs, constants. It is no layer: layers whose calls take code are built on it.
package code

import (
	"slices"

	"auspice/api"
)

// Operands is how many operands an operator has; 0: it is none.
func Operands(op int) int {
	switch {
	case op == api.OpNeg || op == api.OpNot || op == api.OpReal || op == api.OpNan:
		return 1
	case op >= api.OpAdd && op <= api.OpNan:
		return 2
	}
	return 0
}

// Formed tells whether an instruction is one that there is, and what it doesn't name is 0.
func Formed(i api.Ins) bool {
	switch i.Op {
	case api.InsInput, api.InsConst, api.InsLoad:
		return i.B == 0
	case api.InsStore:
		return i.Dst == 0
	case api.InsTell:
		return i.Dst == 0 && i.B == 0
	}
	switch Operands(i.Op) {
	case 1:
		return i.B == 0
	case 2:
		return true
	}
	return false
}

// Reads are the registers that an instruction reads.
func Reads(i api.Ins) []int {
	switch i.Op {
	case api.InsTell:
		return []int{i.A}
	case api.InsStore:
		return []int{i.B}
	}
	return []int{i.A, i.B}[:Operands(i.Op)]
}

// Writes tells whether instructions of that Op write a register.
func Writes(op int) bool {
	return Operands(op) > 0 || op == api.InsInput || op == api.InsConst || op == api.InsLoad
}

// There tells whether the register that an instruction of c writes, and the input, the constant or the slot that it names, is there.
func There(c api.Code, i api.Ins) bool {
	if Writes(i.Op) && !below(i.Dst, c.Regs) {
		return false
	}
	switch i.Op {
	case api.InsInput:
		return below(i.A, len(c.Inputs))
	case api.InsConst:
		return below(i.A, len(c.Consts))
	case api.InsStore, api.InsLoad:
		return below(i.A, c.Slots)
	}
	return true
}

func below(at, bound int) bool {
	return at >= 0 && at < bound
}

// Same tells whether two codes are the same in all that they have.
func Same(a, b api.Code) bool {
	return a.Regs == b.Regs && a.Slots == b.Slots && slices.Equal(a.Inputs, b.Inputs) && slices.Equal(a.Consts, b.Consts) && slices.Equal(a.List, b.List)
}
