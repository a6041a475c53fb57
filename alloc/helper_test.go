package alloc_test

import (
	"fmt"
	"maps"
	"math"
	"math/rand/v2"
	"slices"
	"testing"

	"auspice/alloc"
	"auspice/api"
	"auspice/sample"
	"auspice/ssa"
	"auspice/vm"
)

// dump tells all that a thing has; empty lists are alike in it.
func dump(x any) string {
	return fmt.Sprintf("%+v", x)
}

// none tells whether code is the zero one.
func none(c api.Code) bool {
	return dump(c) == dump(api.Code{})
}

func ofOne(op int) bool {
	return slices.Contains([]int{api.OpNeg, api.OpNot, api.OpReal, api.OpNan}, op)
}

// ops are all operators.
func ops() []int {
	l := []int{}
	for op := api.OpAdd; op <= api.OpNan; op++ {
		l = append(l, op)
	}
	return l
}

// isWait tells whether an instruction is one of those that the answer has beside c's.
func isWait(i api.Ins) bool {
	return i.Op == api.InsStore || i.Op == api.InsLoad
}

// counts tells how many instructions of each Op there are, those of slots aside.
func counts(c api.Code) map[int]int {
	of := map[int]int{}
	for _, i := range c.List {
		if !isWait(i) {
			of[i.Op]++
		}
	}
	return of
}

// term is what an instruction makes: of inputs, constants, and other terms, told by their numbers.
type term struct {
	op, a, b int
}

// terms number what code makes, from 1 on: code that tells the same term tells the same, whatever it is handed.
type terms map[term]int

func (n terms) number(x term) int {
	if _, ok := n[x]; !ok {
		n[x] = len(n) + 1
	}
	return n[x]
}

// told is the term that code tells, done word by word; 0: what is poison.
func (n terms) told(c api.Code) int {
	regs, slots := map[int]int{}, map[int]int{}
	for _, i := range c.List {
		switch {
		case i.Op == api.InsTell:
			return regs[i.A]
		case i.Op == api.InsStore:
			slots[i.A] = regs[i.B]
		case i.Op == api.InsLoad:
			regs[i.Dst] = slots[i.A]
		case i.Op == api.InsInput || i.Op == api.InsConst:
			regs[i.Dst] = n.number(term{i.Op, i.A, 0})
		case ofOne(i.Op):
			regs[i.Dst] = n.number(term{i.Op, regs[i.A], 0})
		default:
			regs[i.Dst] = n.number(term{i.Op, regs[i.A], regs[i.B]})
		}
	}
	return 0
}

// right tells whether each instruction is right in the sense of vm's Good, whatever the Inputs and Consts are.
func right(c api.Code) bool {
	c.Inputs = slices.Repeat([]api.Input{{Op: api.Count, Kind: api.Int}}, len(c.Inputs))
	c.Consts = make([]api.Value, len(c.Consts))
	return vm.Good(c)
}

// wantFit is the answer for code and registers, which is held against all that the chapter says of it.
func wantFit(t *testing.T, c api.Code, regs int) api.Code {
	t.Helper()
	got, err := alloc.Fit(c, regs)
	waits := slices.ContainsFunc(got.List, isWait)
	n := terms{}
	fault := ""
	switch {
	case err != api.OK:
		fault = fmt.Sprint("the error ", err)
	case got.Regs > regs:
		fault = "too many registers"
	case !slices.Equal(got.Inputs, c.Inputs) || !slices.Equal(got.Consts, c.Consts):
		fault = "other Inputs or Consts"
	case !maps.Equal(counts(got), counts(c)):
		fault = "other instructions"
	case regs >= ssa.Width(c) && (got.Slots != 0 || waits):
		fault = "slots without need"
	case regs < ssa.Width(c) && (got.Slots == 0 || !waits):
		fault = "no slots"
	case !right(got):
		fault = "an instruction isn't right"
	case vm.Good(c) && !vm.Good(got):
		fault = "not good"
	case n.told(got) != n.told(c):
		fault = "another thing is told"
	}
	if fault != "" {
		t.Fatalf("%s: %d registers of %+v: %+v", fault, regs, c, got)
	}
	return got
}

func wantError(t *testing.T, what string, c api.Code, regs int, wanted api.Errno) {
	t.Helper()
	if got, err := alloc.Fit(c, regs); err != wanted || !none(got) {
		t.Errorf("%s: %d registers: %d, wanted %d, beside %+v", what, regs, err, wanted, got)
	}
}

// tell is the last instruction.
func tell(reg int) api.Ins {
	return api.Ins{Op: api.InsTell, A: reg}
}

// whole is plain code of four inputs and three constants, with that list.
func whole(l []api.Ins) api.Code {
	c := api.Code{Regs: len(l) - 1, Consts: []api.Value{sample.Int(1), sample.Real(sample.One), sample.Bool(1)}, List: l}
	for at := range 4 {
		c.Inputs = append(c.Inputs, api.Input{Op: api.Of, Kind: api.Int, Pos: at % 2, Attr: at / 2})
	}
	return c
}

// shape is what random plain code is like: how many of nine instructions, about, read nothing; how far back others read.
type shape struct {
	leaves, back int
}

// random is plain code of so many instructions.
func random(r *rand.Rand, count int, s shape) api.Code {
	l, all := []api.Ins{}, ops()
	for at := range count - 1 {
		i := api.Ins{Dst: at}
		switch {
		case at > 0 && r.IntN(9) >= s.leaves:
			i.Op, i.A = all[r.IntN(len(all))], at-1-r.IntN(min(at, s.back))
			if !ofOne(i.Op) {
				i.B = at - 1 - r.IntN(min(at, s.back))
			}
		case r.IntN(2) == 0:
			i.Op, i.A = api.InsInput, r.IntN(4)
		default:
			i.Op, i.A = api.InsConst, r.IntN(3)
		}
		l = append(l, i)
	}
	return whole(append(l, tell(r.IntN(count-1))))
}

// shapes are such with few and with many results that wait.
func shapes() []shape {
	l := []shape{}
	for _, leaves := range []int{0, 1, 3, 5, 8} {
		for _, back := range []int{1, 2, 3, 7, 20, 100, math.MaxInt} {
			l = append(l, shape{leaves, back})
		}
	}
	return l
}

// row is plain code of so many inputs, read by two and two from the last ones on: all of them wait.
func row(count int) api.Code {
	l := []api.Ins{}
	for at := range count {
		l = append(l, api.Ins{Op: api.InsInput, Dst: at, A: at % 4})
	}
	for at := count - 1; at > 0; at -= 2 {
		l = append(l, api.Ins{Op: api.OpAdd, Dst: len(l), A: at - 1, B: at})
	}
	if count%2 == 1 {
		l = append(l, api.Ins{Op: api.OpNeg, Dst: len(l)})
	}
	return whole(append(l, tell(len(l)-1)))
}

// behind is (a + b) * (c + d), as the chapter's example has it, behind so many constants that nothing reads.
func behind(constants int) api.Code {
	l := []api.Ins{}
	for at := range constants {
		l = append(l, api.Ins{Op: api.InsConst, Dst: at, A: at % 3})
	}
	for at, i := range []api.Ins{{Op: api.InsInput}, {Op: api.InsInput, A: 1}, {Op: api.OpAdd, A: 0, B: 1}, {Op: api.InsInput, A: 2}, {Op: api.InsInput, A: 3}, {Op: api.OpAdd, A: 3, B: 4}, {Op: api.OpMul, A: 2, B: 5}} {
		if i.Op != api.InsInput {
			i.A, i.B = i.A+constants, i.B+constants
		}
		i.Dst = constants + at
		l = append(l, i)
	}
	return whole(append(l, tell(len(l)-1)))
}
