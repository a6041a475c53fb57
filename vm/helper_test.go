package vm_test

import (
	"fmt"
	"math"
	"slices"

	"auspice/api"
	"auspice/sample"
)

// dump tells all that a thing has; empty lists are alike in it.
func dump(x any) string {
	return fmt.Sprintf("%+v", x)
}

func ofOne(op int) bool {
	return slices.Contains([]int{api.OpNeg, api.OpNot, api.OpReal, api.OpNan}, op)
}

func ofTwo(op int) bool {
	return slices.Contains([]int{api.OpAdd, api.OpSub, api.OpMul, api.OpDiv, api.OpMod, api.OpEq, api.OpNe, api.OpLt, api.OpLe, api.OpGt, api.OpGe, api.OpAnd, api.OpOr}, op)
}

// values are of all kinds, those too that aren't of the form.
func values() []api.Value {
	return []api.Value{
		{}, {Bits: 7}, {Kind: 5, Bits: 1}, {Kind: -1},
		sample.Int(0), sample.Int(1), sample.Int(-7), sample.Int(3), sample.Int(math.MaxInt64), sample.Int(math.MinInt64),
		sample.Bool(0), sample.Bool(1), sample.Bool(2), sample.Sym(0), sample.Sym(1), sample.Sym(api.MaxSyms),
		sample.Real(0), sample.Real(sample.SignBit), sample.Real(sample.One), sample.Real(sample.Infinite), sample.Real(sample.NaN), sample.Real(math.MaxUint64),
	}
}

func tell(reg int) api.Ins {
	return api.Ins{Op: api.InsTell, A: reg}
}

// load is a constant that a register has.
func load(reg, constant int) api.Ins {
	return api.Ins{Op: api.InsConst, Dst: reg, A: constant}
}

// consts are the numbers from 0 on.
func consts(count int) []api.Value {
	l := []api.Value{}
	for n := range count {
		l = append(l, sample.Int(int64(n)))
	}
	return l
}
