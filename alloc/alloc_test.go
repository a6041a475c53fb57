package alloc_test

import (
	"math"
	"math/rand/v2"
	"slices"
	"testing"

	"auspice/alloc"
	"auspice/api"
	"auspice/sample"
	"auspice/ssa"
	"auspice/vm"
)

// P19.1: the chapter's examples.
func TestExamples(t *testing.T) {
	c := behind(0)
	if ssa.Width(c) != 3 {
		t.Errorf("the width %d", ssa.Width(c))
	}
	if got := wantFit(t, c, 2); got.Slots != 1 || len(got.List) != len(c.List)+2 {
		t.Errorf("%+v", got)
	}
	for regs := 3; regs <= api.MaxRegs; regs++ {
		wantFit(t, c, regs)
	}
	x := api.Node{Op: api.Of, Kind: api.Int}
	sum := func(n int64) api.Node {
		return api.Node{Op: api.OpAdd, Kind: api.Int, Args: []api.Node{x, {Op: api.Const, Kind: api.Int, Value: sample.Int(n)}}}
	}
	c, err := ssa.Make([]api.Node{{Op: api.OpLt, Kind: api.Bool, Args: []api.Node{sum(1), sum(2)}}}, true)
	if err != api.OK || ssa.Width(c) != 3 {
		t.Errorf("%d: the width %d", err, ssa.Width(c))
	}
	wantFit(t, c, 3)
	got := wantFit(t, c, 2)
	if told := vm.Run(got, []api.Value{sample.Int(7)}); told != sample.Bool(1) {
		t.Errorf("told is %v", told)
	}
}

// P19.1: which error goes ahead of which, and that nothing stands beside it.
func TestErrors(t *testing.T) {
	notPlain, long := []api.Code{{}, {Regs: -1}, {Regs: 1, List: []api.Ins{tell(0)}}, {Regs: math.MaxInt}}, behind(3000)
	for _, change := range []func(c *api.Code){
		func(c *api.Code) { c.Slots = 1 },
		func(c *api.Code) { c.Slots = -1 },
		func(c *api.Code) { c.Regs++ },
		func(c *api.Code) { c.Regs-- },
		func(c *api.Code) { c.Inputs = c.Inputs[:3] },
		func(c *api.Code) { c.List[0].B = 1 },
		func(c *api.Code) { c.List[0].Op = api.InsLoad },
		func(c *api.Code) { c.List[2].Dst = 1 },
		func(c *api.Code) { c.List[2].A = 3 },
		func(c *api.Code) { c.List[2].A = math.MinInt },
		func(c *api.Code) { c.List[2].Op = math.MaxInt },
		func(c *api.Code) { c.List[len(c.List)-1].A = len(c.List) - 1 },
		func(c *api.Code) { c.List[len(c.List)-1].Op = api.OpNot },
		func(c *api.Code) { c.List = slices.Insert(c.List, 3, api.Ins{Op: api.InsStore}) },
	} {
		for _, c := range []api.Code{behind(0), behind(2000)} {
			change(&c)
			notPlain = append(notPlain, c)
		}
	}
	fitted, _ := alloc.Fit(behind(0), 3)
	notPlain = append(notPlain, fitted)
	fitted, _ = alloc.Fit(behind(0), 2)
	notPlain = append(notPlain, fitted)
	for _, regs := range []int{math.MinInt, -1, 0, 1, api.MaxRegs + 1, 1000, math.MaxInt} {
		for _, c := range notPlain {
			wantError(t, "not plain", c, regs, api.ErrForm)
		}
		for _, c := range []api.Code{behind(0), behind(1010), row(400), long} {
			wantError(t, "plain", c, regs, api.ErrArg)
		}
	}
	for regs := 2; regs <= api.MaxRegs; regs++ {
		for _, c := range notPlain {
			wantError(t, "not plain", c, regs, api.ErrForm)
		}
		wantError(t, "long", long, regs, api.ErrLong)
	}
}

// P19.1: where there are too many instructions, or too many slots, whichever are taken.
func TestLong(t *testing.T) {
	most := api.MaxCode - len(behind(0).List)
	for regs := 3; regs <= api.MaxRegs; regs++ {
		wantFit(t, behind(most), regs)
		wantError(t, "one too many", behind(most+1), regs, api.ErrLong)
	}
	// with two registers one result is stored and loaded, at least
	if got := wantFit(t, behind(most-2), 2); len(got.List) != api.MaxCode {
		t.Errorf("%d instructions", len(got.List))
	}
	wantError(t, "one too many, stored and loaded", behind(most-1), 2, api.ErrLong)
	// of results that wait, all but as many as there are registers stand in slots
	for regs := 2; regs <= api.MaxRegs; regs++ {
		if got := wantFit(t, row(api.MaxSlots+regs), regs); got.Slots != api.MaxSlots {
			t.Errorf("%d slots", got.Slots)
		}
		wantError(t, "one slot too many", row(api.MaxSlots+regs+1), regs, api.ErrLong)
	}
	wantError(t, "far too many", row(600), 2, api.ErrLong)
	huge := behind(300000)
	huge.Inputs = slices.Repeat(huge.Inputs, 100000)
	wantError(t, "huge", huge, 9, api.ErrLong)
	c := behind(0)
	c.Inputs, c.Consts = slices.Repeat(c.Inputs, 50000), slices.Repeat(c.Consts, 50000)
	wantFit(t, c, 2)
}

// P19.1: up to a quarter of MaxCode nothing is too long; beyond it what needs no slots isn't either.
func TestNeverLong(t *testing.T) {
	r := rand.New(rand.NewPCG(19, 1))
	longest, held := 0, 0
	for range 3 {
		for _, s := range shapes() {
			c := random(r, api.MaxCode/4, s)
			for regs := 2; regs <= api.MaxRegs; regs++ {
				longest = max(longest, len(wantFit(t, c, regs).List))
			}
			c = random(r, api.MaxCode/4+1+r.IntN(api.MaxCode*3/4), s)
			for regs := 2; regs <= api.MaxRegs; regs++ {
				if regs >= ssa.Width(c) {
					wantFit(t, c, regs)
					held++
				} else if got, err := alloc.Fit(c, regs); err == api.ErrLong && !none(got) || err != api.ErrLong && err != api.OK {
					t.Fatalf("%d beside %+v", err, got)
				} else if err == api.OK {
					wantFit(t, c, regs)
				}
			}
		}
	}
	if longest < api.MaxCode*3/4 || held < 300 {
		t.Errorf("the longest has %d instructions; %d needed no slots", longest, held)
	}
}

// P19.1: all plain code of up to six registers, each of which is an input's or the sum of two, as few registers as there may be.
func TestSmall(t *testing.T) {
	tried, slots := 0, map[int]int{}
	var grow func(l []api.Ins)
	grow = func(l []api.Ins) {
		at := len(l)
		if at > 0 {
			for told := range at {
				c := whole(append(slices.Clone(l), tell(told)))
				for regs := 2; regs < 4; regs++ {
					slots[wantFit(t, c, regs).Slots]++
					tried++
				}
			}
		}
		if at == 6 {
			return
		}
		grow(append(l, api.Ins{Op: api.InsInput, Dst: at, A: at % 4}))
		for a := range at {
			for b := range at {
				grow(append(l, api.Ins{Op: api.OpAdd, Dst: at, A: a, B: b}))
			}
		}
	}
	grow(nil)
	if tried < 500000 || slots[0] == 0 || slots[1] == 0 || slots[2] == 0 {
		t.Errorf("%d tried; slots: %v", tried, slots)
	}
}

// P19.1: plain code of all sorts and lengths.
func TestRandom(t *testing.T) {
	r := rand.New(rand.NewPCG(19, 2))
	o, slots := sample.Odd{Pick: r.IntN}, map[bool]int{}
	for range 300 {
		for _, s := range shapes() {
			c := random(r, 2+r.IntN(5+r.IntN(60)), s)
			slots[wantFit(t, c, 2+r.IntN(api.MaxRegs-1)).Slots > 0]++
		}
	}
	for range 10000 {
		c := o.Plain()
		for regs := 2; regs < 6; regs++ {
			slots[wantFit(t, c, regs).Slots > 0]++
		}
	}
	if slots[true] < 4000 || slots[false] < 4000 {
		t.Errorf("with slots are %v", slots)
	}
}
