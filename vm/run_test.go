package vm_test

import (
	"math"
	"math/rand/v2"
	"slices"
	"testing"

	"auspice/api"
	"auspice/sample"
	"auspice/value"
	"auspice/vm"
)

// cells hold values by their numbers; beyond these nothing is held.
type cells struct {
	count int
	held  map[int]api.Value
}

func newCells(count, most int) cells {
	return cells{min(count, most), map[int]api.Value{}}
}

func (c cells) read(at int) api.Value {
	return c.held[at]
}

func (c cells) write(at int, v api.Value) {
	if at >= 0 && at < c.count {
		c.held[at] = v
	}
}

func listed(l []api.Value, at int) api.Value {
	if at >= 0 && at < len(l) {
		return value.Clean(l[at])
	}
	return api.Value{}
}

// runByWords is what the chapter says, word by word.
func runByWords(c api.Code, inputs []api.Value) api.Value {
	regs, slots := newCells(c.Regs, api.MaxCode), newCells(c.Slots, api.MaxSlots)
	for _, i := range c.List {
		switch {
		case i.Op == api.InsTell:
			return regs.read(i.A)
		case ofOne(i.Op):
			regs.write(i.Dst, value.Apply(i.Op, []api.Value{regs.read(i.A)}))
		case ofTwo(i.Op):
			regs.write(i.Dst, value.Apply(i.Op, []api.Value{regs.read(i.A), regs.read(i.B)}))
		case i.Op == api.InsInput:
			regs.write(i.Dst, listed(inputs, i.A))
		case i.Op == api.InsConst:
			regs.write(i.Dst, listed(c.Consts, i.A))
		case i.Op == api.InsStore:
			slots.write(i.A, regs.read(i.B))
		case i.Op == api.InsLoad:
			regs.write(i.Dst, slots.read(i.A))
		}
	}
	return api.Value{}
}

func wantRun(t *testing.T, what string, c api.Code, inputs []api.Value, wanted api.Value) {
	t.Helper()
	if got := vm.Run(c, inputs); got != wanted || got != runByWords(c, inputs) {
		t.Errorf("%s: %v, wanted %v (by words %v)", what, got, wanted, runByWords(c, inputs))
	}
}

// P18.1: the chapter's examples, and others.
func TestRun(t *testing.T) {
	poison := api.Value{}
	wantRun(t, "1 / 0", api.Code{Regs: 3, Consts: consts(2), List: []api.Ins{load(0, 1), load(1, 0), {Op: api.OpDiv, Dst: 2, A: 0, B: 1}, tell(2)}}, nil, poison)
	wantRun(t, "no end", api.Code{Regs: 1, Consts: consts(2), List: []api.Ins{load(0, 1)}}, nil, poison)
	wantRun(t, "nothing", api.Code{}, nil, poison)
	c := api.Code{Regs: 2, Slots: 2, Consts: consts(9)}
	for i, x := range []struct {
		l      []api.Ins
		wanted api.Value
	}{
		{[]api.Ins{tell(0)}, poison},
		{[]api.Ins{load(0, 7), tell(0)}, sample.Int(7)},
		{[]api.Ins{load(1, 7), tell(0)}, poison},
		{[]api.Ins{load(0, 7), load(0, 8), tell(0)}, sample.Int(8)},
		{[]api.Ins{load(0, 7), tell(0), load(0, 8), tell(0)}, sample.Int(7)},
		{[]api.Ins{tell(0), load(0, 8), tell(0)}, poison},
		{[]api.Ins{load(0, 7), load(0, 9), tell(0)}, poison},
		{[]api.Ins{load(0, 7), load(0, -1), tell(0)}, poison},
		{[]api.Ins{load(0, 7), load(-1, 8), load(2, 8), tell(0)}, sample.Int(7)},
		{[]api.Ins{load(0, 7), tell(-1)}, poison},
		{[]api.Ins{load(2, 7), tell(2)}, poison},
		{[]api.Ins{load(0, 7), {Op: api.InsTell, Dst: 1, A: 0, B: 1}}, sample.Int(7)},
		// what an operator doesn't name isn't looked at; what it reads may be what it writes
		{[]api.Ins{load(0, 7), load(1, 2), {Op: api.OpNeg, Dst: 1, A: 0, B: 1}, tell(1)}, sample.Int(-7)},
		{[]api.Ins{load(0, 7), load(1, 2), {Op: api.OpSub, Dst: 0, A: 0, B: 1}, {Op: api.OpSub, Dst: 0, A: 0, B: 1}, tell(0)}, sample.Int(3)},
		{[]api.Ins{load(0, 7), {Op: api.OpAdd, Dst: 0, A: 0, B: 1}, tell(0)}, poison},
		{[]api.Ins{load(0, 7), {Op: api.OpAdd, Dst: 1, A: 0, B: 2}, tell(1)}, poison},
		{[]api.Ins{load(0, 7), {Op: api.OpNeg, Dst: 0, A: -1}, tell(0)}, poison},
		// slots
		{[]api.Ins{load(0, 7), {Op: api.InsStore, A: 1, B: 0}, load(0, 8), {Op: api.InsLoad, Dst: 0, A: 1}, tell(0)}, sample.Int(7)},
		{[]api.Ins{load(0, 7), {Op: api.InsStore, A: 1, B: 0}, {Op: api.InsLoad, Dst: 0, A: 0}, tell(0)}, poison},
		{[]api.Ins{load(0, 7), {Op: api.InsStore, Dst: 1, A: 0, B: 0}, tell(1)}, poison},
		{[]api.Ins{load(0, 7), {Op: api.InsStore, A: 1, B: 0}, {Op: api.InsStore, A: 1, B: 1}, {Op: api.InsLoad, Dst: 0, A: 1}, tell(0)}, poison},
		{[]api.Ins{load(0, 7), {Op: api.InsStore, A: 2, B: 0}, {Op: api.InsLoad, Dst: 1, A: 2}, tell(1)}, poison},
		{[]api.Ins{load(0, 7), {Op: api.InsStore, A: -1, B: 0}, {Op: api.InsLoad, Dst: 0, A: -1}, tell(0)}, poison},
		{[]api.Ins{load(0, 7), {Op: api.InsLoad, Dst: 2, A: 0}, tell(0)}, sample.Int(7)},
		// what is none does nothing
		{[]api.Ins{load(0, 7), {}, {Op: -1}, {Op: 18}, {Op: api.Const}, {Op: api.Cur}, {Op: 49}, {Op: 55}, {Op: math.MinInt}, {Op: math.MaxInt}, tell(0)}, sample.Int(7)},
	} {
		c.List = x.l
		wantRun(t, dump(i), c, nil, x.wanted)
	}
}

// P18.1: every operator, of registers that have values of all kinds.
func TestRunOperators(t *testing.T) {
	all := values()
	c := api.Code{Regs: 3, Inputs: nil, List: []api.Ins{{Op: api.InsInput, Dst: 0, A: 0}, {Op: api.InsInput, Dst: 1, A: 1}, {}, tell(2)}}
	for op := -1; op <= api.OpNan+1; op++ {
		c.List[2] = api.Ins{Op: op, Dst: 2, A: 0, B: 1}
		for _, a := range all {
			for _, b := range all {
				wanted := value.Apply(op, []api.Value{a, b})
				if ofOne(op) {
					wanted = value.Apply(op, []api.Value{a})
				} else if !ofTwo(op) {
					wanted = api.Value{}
				}
				wantRun(t, dump(c.List[2]), c, []api.Value{a, b}, wanted)
			}
		}
	}
}

// P18.1: what is handed in, and constants, count as what they are Clean; it is what is handed in that is read, whatever the Inputs.
func TestRunCleans(t *testing.T) {
	all := values()
	for at := -2; at < len(all)+2; at++ {
		wanted := api.Value{}
		if at >= 0 && at < len(all) {
			wanted = value.Clean(all[at])
		}
		l := []api.Ins{{Op: api.InsInput, A: at, B: 5}, tell(0)}
		wantRun(t, "an input", api.Code{Regs: 1, Inputs: make([]api.Input, 1), List: l}, all, wanted)
		wantRun(t, "an input of none", api.Code{Regs: 1, Inputs: make([]api.Input, 99), List: l}, nil, api.Value{})
		l = []api.Ins{load(0, at), tell(0)}
		wantRun(t, "a constant", api.Code{Regs: 1, Consts: all, List: l}, nil, wanted)
		wantRun(t, "a constant of none", api.Code{Regs: 1, List: l}, all, api.Value{})
	}
}

// P18.1: how many registers and slots there are: as many as it says, but no more than may be.
func TestRunRoom(t *testing.T) {
	for _, count := range []int{math.MinInt, -1, 0, 1, 2, 255, 256, 257, 1023, 1024, 1025, 5000, math.MaxInt} {
		for _, at := range []int{math.MinInt, -1, 0, 1, 2, 254, 255, 256, 257, 1022, 1023, 1024, 1025, 4999, math.MaxInt} {
			wanted := api.Value{}
			if at >= 0 && at < min(count, api.MaxCode) {
				wanted = sample.Int(7)
			}
			wantRun(t, "a register", api.Code{Regs: count, Consts: consts(9), List: []api.Ins{load(at, 7), tell(at)}}, nil, wanted)
			if at >= api.MaxSlots {
				wanted = api.Value{}
			}
			l := []api.Ins{load(0, 7), {Op: api.InsStore, A: at, B: 0}, {Op: api.InsLoad, Dst: 1, A: at}, tell(1)}
			wantRun(t, "a slot", api.Code{Regs: 2, Slots: count, Consts: consts(9), List: l}, nil, wanted)
		}
	}
}

// P18.1, P1: code of all sorts, against the chapter's words; nothing that is handed in is changed, and none is remembered.
func TestRunRandom(t *testing.T) {
	o, all, told := sample.Odd{Pick: rand.New(rand.NewPCG(18, 1)).IntN}, values(), map[int]int{}
	for range 60000 {
		c, inputs := o.Code(), []api.Value{}
		for range o.Pick(6) {
			inputs = append(inputs, all[o.Pick(len(all))])
		}
		c.Consts = append(c.Consts, all[o.Pick(len(all))])
		before := dump(c) + dump(inputs[:cap(inputs)])
		got, wanted := vm.Run(c, inputs), runByWords(c, inputs)
		if got != wanted || vm.Run(c, inputs) != wanted {
			t.Fatalf("%s: %v, wanted %v", before, got, wanted)
		}
		if vm.Good(c) && got != value.Clean(got) {
			t.Fatalf("%s: %v isn't clean", before, got)
		}
		if after := dump(c) + dump(inputs[:cap(inputs)]); after != before {
			t.Fatalf("%s became %s", before, after)
		}
		told[got.Kind]++
	}
	for kind := api.Poison; kind <= api.Real; kind++ {
		if told[kind] < 500 {
			t.Errorf("the kind %d is told %d times", kind, told[kind])
		}
	}
}

// P1: a list of any length ends.
func TestRunLong(t *testing.T) {
	l := slices.Repeat([]api.Ins{{Op: api.OpAdd, Dst: 0, A: 0, B: 1}}, 1000000)
	l = append(append([]api.Ins{load(0, 0), load(1, 1)}, l...), tell(0))
	wantRun(t, "a sum", api.Code{Regs: 2, Consts: consts(2), List: l}, nil, sample.Int(1000000))
}
