package vm_test

import (
	"math"
	"math/rand/v2"
	"slices"
	"testing"

	"auspice/api"
	"auspice/sample"
	"auspice/value"
	"auspice/vm"
)

// hand is good code by hand, which has an instruction of each form.
func hand() api.Code {
	return api.Code{Regs: 3, Slots: 2, Inputs: []api.Input{{Op: api.Cur, Kind: api.Int, Attr: -1}, {Op: api.Count, Kind: api.Int, Pos: 1}}, Consts: []api.Value{sample.Int(1), {}}, List: []api.Ins{
		{Op: api.InsInput, Dst: 0, A: 1},
		{Op: api.InsStore, A: 1, B: 0},
		{Op: api.InsConst, Dst: 1, A: 1},
		{Op: api.OpAdd, Dst: 0, A: 0, B: 1},
		{Op: api.InsLoad, Dst: 1, A: 1},
		{Op: api.OpNeg, Dst: 1, A: 1},
		{Op: api.OpLt, Dst: 2, A: 1, B: 0},
		{Op: api.InsTell, A: 2},
	}}
}

func wantGood(t *testing.T, wanted bool, changes []func(c *api.Code)) {
	t.Helper()
	for i, change := range changes {
		c := hand()
		change(&c)
		if vm.Good(c) != wanted {
			t.Errorf("the change %d: Good is %v: %+v", i, !wanted, c)
		}
		vm.Run(c, consts(2))
	}
}

// repeated are so many instructions of which the last one tells.
func repeated(count int) []api.Ins {
	return append(slices.Repeat([]api.Ins{load(0, 0)}, count-1), tell(0))
}

// P18.2: what may be otherwise, and the code is good yet.
func TestGood(t *testing.T) {
	wantGood(t, true, []func(c *api.Code){
		func(c *api.Code) {},
		func(c *api.Code) { c.Regs = api.MaxCode },
		func(c *api.Code) { c.Slots = api.MaxSlots },
		func(c *api.Code) { c.Slots = api.MaxSlots; c.List[1].A, c.List[4].A = api.MaxSlots-1, api.MaxSlots-1 },
		func(c *api.Code) { c.Regs = api.MaxCode; c.List[6].Dst, c.List[7].A = api.MaxCode-1, api.MaxCode-1 },
		func(c *api.Code) { c.List = repeated(2) },
		func(c *api.Code) { c.List = repeated(api.MaxCode) },
		func(c *api.Code) { c.List, c.Regs, c.Slots = repeated(2), 1, 0 },
		func(c *api.Code) { c.List, c.Inputs, c.Consts = repeated(2), nil, c.Consts[:1] },
		func(c *api.Code) { c.Inputs = append(c.Inputs, c.Inputs...) },
		func(c *api.Code) { c.Consts = slices.Repeat(c.Consts, 2000) },
		func(c *api.Code) { c.List[0].Dst, c.List[1].B, c.List[2].Dst = 1, 1, 0 },
		func(c *api.Code) { c.List[6].A, c.List[6].B = 1, 1 },
		func(c *api.Code) { c.List[7].A = 0 },
		func(c *api.Code) { c.List[7].A = 1 },
	})
}

// P18.2: one thing that is otherwise, and the code isn't good.
func TestNotGood(t *testing.T) {
	changes := []func(c *api.Code){
		func(c *api.Code) { *c = api.Code{} },
		func(c *api.Code) { c.Regs = 0 },
		func(c *api.Code) { c.Regs = 2 },
		func(c *api.Code) { c.Regs = api.MaxCode + 1 },
		func(c *api.Code) { c.Slots = 0 },
		func(c *api.Code) { c.Slots = 1 },
		func(c *api.Code) { c.Slots = api.MaxSlots + 1 },
		func(c *api.Code) { c.List = nil },
		func(c *api.Code) { c.List = repeated(1) },
		func(c *api.Code) { c.List = repeated(api.MaxCode + 1) },
		func(c *api.Code) { c.List = c.List[:7] },
		func(c *api.Code) { c.List = append(c.List, c.List[7]) },
		func(c *api.Code) { c.List = append(c.List, c.List[0]) },
		func(c *api.Code) { c.List = slices.Insert(c.List, 3, tell(0)) },
		func(c *api.Code) { c.List[5].Op = 18 },
		func(c *api.Code) { c.List[5].Op = 0 },
		func(c *api.Code) { c.List[5].Op = api.Const },
		func(c *api.Code) { c.List[5].Op = api.Cur },
		func(c *api.Code) { c.List[3].Op = api.OpNot },
		func(c *api.Code) { c.List = slices.Insert(c.List, 3, api.Ins{}) },
		// what isn't named
		func(c *api.Code) { c.List[0].B = 1 },
		func(c *api.Code) { c.List[1].Dst = 1 },
		func(c *api.Code) { c.List[2].B = 1 },
		func(c *api.Code) { c.List[4].B = 1 },
		func(c *api.Code) { c.List[5].B = 1 },
		func(c *api.Code) { c.List[7].Dst = 1 },
		func(c *api.Code) { c.List[7].B = 1 },
		// read, or loaded, ahead of what writes it, or not written at all
		func(c *api.Code) { c.List[1].B = 1 },
		func(c *api.Code) { c.List[3].A = 2 },
		func(c *api.Code) { c.List[3].B = 2 },
		func(c *api.Code) { c.List[6].A = 2 },
		func(c *api.Code) { c.List[6].Dst = 1 },
		func(c *api.Code) { c.List[5].A = 2 },
		func(c *api.Code) { c.List[4].A = 0 },
		func(c *api.Code) { c.List[1].A = 0 },
		func(c *api.Code) { c.List[1], c.List[4] = c.List[4], c.List[1] },
		func(c *api.Code) { c.List = c.List[1:] },
		func(c *api.Code) { c.List = append(c.List[:2:2], c.List[3:]...) },
		// named, and not there
		func(c *api.Code) { c.Inputs = c.Inputs[:1] },
		func(c *api.Code) { c.Consts = c.Consts[:1] },
		func(c *api.Code) { c.Inputs = nil },
		func(c *api.Code) { c.Consts = nil },
		func(c *api.Code) { c.List[0].A = 2 },
		func(c *api.Code) { c.List[2].A = 2 },
		func(c *api.Code) { c.List = slices.Insert(c.List, 3, api.Ins{Op: api.InsStore, A: 2, B: 0}) },
		func(c *api.Code) { c.List = slices.Insert(c.List, 3, load(3, 0)) },
		func(c *api.Code) { c.List = slices.Insert(c.List, 3, load(0, 2)) },
		// constants that count as others, used or not
		func(c *api.Code) { c.Consts[1].Bits = 7 },
		func(c *api.Code) { c.Consts = append(c.Consts, sample.Bool(2)) },
		func(c *api.Code) { c.Consts = append(c.Consts, sample.Sym(api.MaxSyms)) },
		func(c *api.Code) { c.Consts = append(c.Consts, sample.Real(math.MaxUint64)) },
		func(c *api.Code) { c.Consts = append(c.Consts, api.Value{Kind: 5}) },
	}
	for _, n := range []int{math.MinInt, -1, math.MaxInt} {
		changes = append(changes, func(c *api.Code) { c.Slots = n }, func(c *api.Code) { c.Regs = n })
		for at := range 8 {
			changes = append(changes, func(c *api.Code) { c.List[at].Op = n }, func(c *api.Code) { c.List[at].Dst = n }, func(c *api.Code) { c.List[at].A = n }, func(c *api.Code) { c.List[at].B = n })
		}
	}
	wantGood(t, false, changes)
}

// goodInput is what the chapter says of one.
func goodInput(x api.Input) bool {
	switch {
	case !slices.Contains([]int{api.Cur, api.Of, api.Count, api.First, api.Last, api.Sum, api.Min, api.Max, api.Mean}, x.Op):
		return false
	case x.Op == api.Cur && x.Pos != 0, x.Op == api.Count && x.Attr != 0:
		return false
	}
	return slices.Contains([]int{api.Int, api.Bool, api.Sym, api.Real}, x.Kind) && x.Pos >= 0 && x.Pos <= 7 && x.Attr >= -1 && x.Attr <= 7
}

// P18.2: inputs of all sorts, used or not.
func TestGoodInputs(t *testing.T) {
	ops := []int{math.MinInt, -1, math.MaxInt}
	for op := range 60 {
		ops = append(ops, op)
	}
	good := map[bool]int{}
	for _, op := range ops {
		for _, kind := range []int{math.MinInt, -1, 0, 1, 2, 3, 4, 5, math.MaxInt} {
			for _, pos := range []int{math.MinInt, -1, 0, 1, 7, 8, math.MaxInt} {
				for _, attr := range []int{math.MinInt, -2, -1, 0, 1, 7, 8, math.MaxInt} {
					c, x := hand(), api.Input{Op: op, Kind: kind, Pos: pos, Attr: attr}
					c.Inputs = append(c.Inputs, x)
					wanted := goodInput(x)
					if vm.Good(c) != wanted {
						t.Errorf("%+v: Good is %v", x, !wanted)
					}
					good[wanted]++
				}
			}
		}
	}
	if good[true] != 7*4*3*4+4*4+4*3 {
		t.Errorf("%v", good)
	}
}

// P18.2: constants of all sorts, used or not.
func TestGoodConstants(t *testing.T) {
	for _, v := range values() {
		c := hand()
		c.Consts = append(c.Consts, v)
		if wanted := v == value.Clean(v); vm.Good(c) != wanted {
			t.Errorf("%v: Good is %v", v, !wanted)
		}
	}
}

// goodByWords is what the chapter says, thing by thing.
func goodByWords(c api.Code) bool {
	if c.Regs < 1 || c.Regs > 1024 || c.Slots < 0 || c.Slots > 256 || len(c.List) < 1 || len(c.List) > 1024 {
		return false
	}
	for at, i := range c.List {
		if (i.Op == api.InsTell) != (at == len(c.List)-1) || !named(c, i) {
			return false
		}
		for _, reg := range read(i) {
			if !slices.ContainsFunc(c.List[:at], func(j api.Ins) bool { return j.Op != api.InsStore && j.Dst == reg }) {
				return false
			}
		}
		if i.Op == api.InsLoad && !slices.ContainsFunc(c.List[:at], func(j api.Ins) bool { return j.Op == api.InsStore && j.A == i.A }) {
			return false
		}
	}
	return !slices.ContainsFunc(c.Inputs, func(x api.Input) bool { return !goodInput(x) }) && !slices.ContainsFunc(c.Consts, func(v api.Value) bool { return v != value.Clean(v) })
}

func read(i api.Ins) []int {
	switch {
	case i.Op == api.InsTell, ofOne(i.Op):
		return []int{i.A}
	case i.Op == api.InsStore:
		return []int{i.B}
	case ofTwo(i.Op):
		return []int{i.A, i.B}
	}
	return nil
}

// named tells whether it is an instruction, what it names but doesn't read is there, and what it doesn't name is 0.
func named(c api.Code, i api.Ins) bool {
	at := func(n, count int) bool { return n >= 0 && n < count }
	switch {
	case ofOne(i.Op):
		return at(i.Dst, c.Regs) && i.B == 0
	case ofTwo(i.Op):
		return at(i.Dst, c.Regs)
	case i.Op == api.InsInput:
		return at(i.Dst, c.Regs) && at(i.A, len(c.Inputs)) && i.B == 0
	case i.Op == api.InsConst:
		return at(i.Dst, c.Regs) && at(i.A, len(c.Consts)) && i.B == 0
	case i.Op == api.InsTell:
		return i.Dst == 0 && i.B == 0
	case i.Op == api.InsStore:
		return i.Dst == 0 && at(i.A, c.Slots)
	case i.Op == api.InsLoad:
		return at(i.Dst, c.Regs) && at(i.A, c.Slots) && i.B == 0
	}
	return false
}

// P18.2, P1: code of all sorts, against the chapter's words.
func TestGoodRandom(t *testing.T) {
	o, good, slots := sample.Odd{Pick: rand.New(rand.NewPCG(18, 2)).IntN}, map[bool]int{}, 0
	for range 60000 {
		c := o.Code()
		before := dump(c)
		wanted := goodByWords(c)
		if vm.Good(c) != wanted {
			t.Fatalf("Good is %v: %+v", !wanted, c)
		}
		if dump(c) != before {
			t.Fatalf("%s became %+v", before, c)
		}
		good[wanted]++
		if wanted && slices.ContainsFunc(c.List, func(i api.Ins) bool { return i.Op == api.InsLoad }) {
			slots++
		}
	}
	if good[true] < 5000 || good[false] < 5000 || slots < 500 {
		t.Errorf("good are %v, %d with slots", good, slots)
	}
}
