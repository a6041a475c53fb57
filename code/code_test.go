package code_test

import (
	"math"
	"slices"
	"testing"

	"auspice/api"
	"auspice/code"
)

// form is an instruction of the chapter's list: which numbers it names, and what they are of.
type form struct {
	ops    []int
	named  string // of d, a, b
	reads  string // of a, b
	writes bool
}

func forms() []form {
	return []form{
		{[]int{api.OpAdd, api.OpSub, api.OpMul, api.OpDiv, api.OpMod, api.OpEq, api.OpNe, api.OpLt, api.OpLe, api.OpGt, api.OpGe, api.OpAnd, api.OpOr}, "dab", "ab", true},
		{[]int{api.OpNeg, api.OpNot, api.OpReal, api.OpNan}, "da", "a", true},
		{[]int{api.InsInput, api.InsConst, api.InsLoad}, "da", "", true},
		{[]int{api.InsTell}, "a", "a", false},
		{[]int{api.InsStore}, "ab", "b", false},
	}
}

// formOf is that of an Op; without Ops: there is none.
func formOf(op int) form {
	for _, f := range forms() {
		if slices.Contains(f.ops, op) {
			return f
		}
	}
	return form{}
}

// ops are all there are, and others.
func ops() []int {
	l := []int{math.MinInt, -7, math.MaxInt}
	for op := -2; op < 70; op++ {
		l = append(l, op)
	}
	return l
}

func numbers() []int {
	return []int{math.MinInt, -1, 0, 1, 2, 3, math.MaxInt}
}

func TestOperands(t *testing.T) {
	for _, op := range ops() {
		wanted := 0
		if op >= api.OpAdd && op <= api.OpNan {
			wanted = len(formOf(op).reads)
		}
		if got := code.Operands(op); got != wanted {
			t.Errorf("%d: %d, wanted %d", op, got, wanted)
		}
	}
}

func TestInstructions(t *testing.T) {
	for _, op := range ops() {
		f := formOf(op)
		if code.Writes(op) != f.writes {
			t.Errorf("%d: Writes is %v", op, code.Writes(op))
		}
		for _, d := range numbers() {
			for _, a := range numbers() {
				for _, b := range numbers() {
					checkInstruction(t, f, api.Ins{Op: op, Dst: d, A: a, B: b})
				}
			}
		}
	}
}

func checkInstruction(t *testing.T, f form, i api.Ins) {
	t.Helper()
	formed, reads := f.ops != nil, []int{}
	for _, x := range []struct {
		name  rune
		bears int
	}{{'d', i.Dst}, {'a', i.A}, {'b', i.B}} {
		if !slices.Contains([]rune(f.named), x.name) && x.bears != 0 {
			formed = false
		}
		if slices.Contains([]rune(f.reads), x.name) {
			reads = append(reads, x.bears)
		}
	}
	if got := code.Formed(i); got != formed {
		t.Errorf("%+v: Formed is %v", i, got)
	}
	if got := code.Reads(i); !slices.Equal(got, reads) {
		t.Errorf("%+v: Reads is %v, wanted %v", i, got, reads)
	}
}

func TestThere(t *testing.T) {
	c := api.Code{Regs: 1, Slots: 2, Inputs: make([]api.Input, 3), Consts: make([]api.Value, 4)}
	for _, op := range ops() {
		for _, d := range numbers() {
			for _, a := range append(numbers(), 4) {
				most := math.MaxInt
				switch op {
				case api.InsStore, api.InsLoad:
					most = 1
				case api.InsInput:
					most = 2
				case api.InsConst:
					most = 3
				}
				wanted := (!formOf(op).writes || d == 0) && (most == math.MaxInt || a >= 0 && a <= most)
				if got := code.There(c, api.Ins{Op: op, Dst: d, A: a, B: a}); got != wanted {
					t.Errorf("%d %d %d: There is %v", op, d, a, got)
				}
			}
		}
	}
	for _, i := range []api.Ins{{Op: api.OpAdd}, {Op: api.InsInput}, {Op: api.InsConst}, {Op: api.InsLoad}, {Op: api.InsStore}} {
		if code.There(api.Code{}, i) || code.There(api.Code{Regs: -1, Slots: math.MinInt}, i) {
			t.Errorf("%+v is there where nothing is", i)
		}
	}
}

func TestSame(t *testing.T) {
	made := func() api.Code {
		return api.Code{Regs: 1, Slots: 2, Inputs: make([]api.Input, 3), Consts: make([]api.Value, 4), List: make([]api.Ins, 5)}
	}
	if !code.Same(made(), made()) || !code.Same(api.Code{}, api.Code{Inputs: []api.Input{}, Consts: []api.Value{}, List: []api.Ins{}}) {
		t.Error("code isn't the same as it is")
	}
	for i, change := range []func(c *api.Code){
		func(c *api.Code) { c.Regs++ },
		func(c *api.Code) { c.Slots-- },
		func(c *api.Code) { c.Inputs = c.Inputs[:2] },
		func(c *api.Code) { c.Inputs[2].Attr = -1 },
		func(c *api.Code) { c.Consts = nil },
		func(c *api.Code) { c.Consts[3].Bits = 1 },
		func(c *api.Code) { c.List = append(c.List, api.Ins{}) },
		func(c *api.Code) { c.List[4].B = 1 },
	} {
		c := made()
		change(&c)
		if code.Same(c, made()) || code.Same(made(), c) {
			t.Errorf("the change %d: the same", i)
		}
	}
}
