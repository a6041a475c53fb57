package ssa_test

import (
	"fmt"
	"slices"
	"testing"

	"auspice/api"
	"auspice/sample"
)

// dump tells all that a thing has; empty lists are alike in it.
func dump(x any) string {
	return fmt.Sprintf("%+v", x)
}

func of(op int, args ...api.Node) api.Node {
	return api.Node{Op: op, Kind: api.Bool, Args: args}
}

func constant(n int64) api.Node {
	return api.Node{Op: api.Const, Kind: api.Int, Value: sample.Int(n)}
}

func leaf(op, kind, pos, attr int) api.Node {
	return api.Node{Op: op, Kind: kind, Pos: pos, Attr: attr}
}

// operands is how many an operator of the chapter has.
func operands(op int) int {
	switch {
	case slices.Contains([]int{api.OpNeg, api.OpNot, api.OpReal, api.OpNan}, op):
		return 1
	case slices.Contains([]int{api.OpAdd, api.OpSub, api.OpMul, api.OpDiv, api.OpMod, api.OpEq, api.OpNe, api.OpLt, api.OpLe, api.OpGt, api.OpGe, api.OpAnd, api.OpOr}, op):
		return 2
	}
	return 0
}

func isLeaf(op int) bool {
	return slices.Contains([]int{api.Const, api.Cur, api.Of, api.Count, api.First, api.Last, api.Sum, api.Min, api.Max, api.Mean}, op)
}

// reads are the registers that an instruction of plain code reads.
func reads(i api.Ins) []int {
	if i.Op == api.InsTell || operands(i.Op) == 1 {
		return []int{i.A}
	}
	if operands(i.Op) == 2 {
		return []int{i.A, i.B}
	}
	return nil
}

// codeRooms are the addresses of all that code has room for.
func codeRooms(c api.Code) []any {
	return slices.Concat(sample.Addresses(c.List), sample.Addresses(c.Inputs), sample.Addresses(c.Consts))
}

func wantCode(t *testing.T, what string, got, wanted api.Code) {
	t.Helper()
	if dump(got) != dump(wanted) {
		t.Fatalf("%s: %+v, wanted %+v", what, got, wanted)
	}
}

// none tells whether code is the zero one.
func none(c api.Code) bool {
	return dump(c) == dump(api.Code{})
}
