package prove_test

import (
	"math/rand/v2"
	"slices"
	"testing"

	"auspice/api"
	"auspice/auto"
	"auspice/event"
	"auspice/load"
	"auspice/prove"
	"auspice/sample"
	"auspice/schema"
	"auspice/vm"
)

// rich has conditions at all places where there may be some, and nothing alike in two of them.
const rich = "PATTERN SEQ(A a, !B n, A+ b, !B m, B c, !A o) | SEQ(A d, B e) WHERE a.x > 1 AND n.x = a.x AND b.x > SUM(b.x) AND COUNT(b) > 1 AND LAST(b.r) < 0.5 AND m.x != LAST(b.x) AND c.r > 1.0 AND o.x > a.x AND NOT d.b AND e.x / d.x > 3 STRATEGY NEXT WITHIN 9 PARTITION BY k"

// both are rich's automaton, and its table.
func both(t *testing.T) (api.Auto, api.Table) {
	t.Helper()
	a, ok := built(t, rich, 0)
	if !ok {
		t.Fatal("too long")
	}
	return a, tableOf(t, &sample.Coder{Regs: 3}, a)
}

// The chapter's example.
func TestExample(t *testing.T) {
	a, x := both(t)
	others := 0
	for i, c := range x.Codes {
		old, _ := toldBy(c)
		for at, ins := range c.List {
			if !isOperator(ins.Op) {
				continue
			}
			for reg := range c.Regs {
				for _, changed := range []api.Ins{{Op: ins.Op, Dst: ins.Dst, A: reg, B: ins.B}, {Op: ins.Op, Dst: ins.Dst, A: ins.A, B: reg}} {
					l := slices.Clone(c.List)
					l[at] = changed
					x.Codes[i].List = l
					if !vm.Good(x.Codes[i]) {
						continue
					}
					n, _ := toldBy(x.Codes[i])
					wantValid(t, "another register", sample.Shop(), a, x, alikeByWords(n, old))
					if !alikeByWords(n, old) {
						others++
					}
				}
			}
		}
		x.Codes[i] = c
	}
	if others < 20 {
		t.Errorf("%d other registers", others)
	}
	for regs := 2; regs <= api.MaxRegs; regs++ {
		for _, share := range []bool{false, true} {
			wantValid(t, "made so", sample.Shop(), a, tableOf(t, &sample.Coder{Regs: regs, Share: share}, a), true)
		}
	}
}

// moved is a table with its codes in another order, some of them there once for each place where they are told.
func moved(r *rand.Rand, x api.Table) api.Table {
	l, codes := []*int{}, x.Codes
	stops := func(all []api.Stop) []api.Stop {
		all = slices.Clone(all)
		for i := range all {
			l = append(l, &all[i].Guard)
		}
		return all
	}
	x.States, x.Codes = slices.Clone(x.States), nil
	for i := range x.States {
		s := &x.States[i]
		l = append(l, &s.Leave, &s.Guard)
		s.Bars, s.Ends = stops(s.Bars), slices.Clone(s.Ends)
		for j := range s.Ends {
			l = append(l, &s.Ends[j].Close)
			s.Ends[j].Bars = stops(s.Ends[j].Bars)
		}
	}
	r.Shuffle(len(l), func(i, j int) { l[i], l[j] = l[j], l[i] })
	became := map[int]int{}
	for _, number := range l {
		if *number < 0 {
			continue
		}
		old := *number
		if at, ok := became[old]; ok && r.IntN(2) == 0 {
			*number = at
			continue
		}
		became[old], *number = len(x.Codes), len(x.Codes)
		x.Codes = append(x.Codes, codes[old])
	}
	return x
}

// idle is a table whose codes do a thing more, on which nothing hangs.
func idle(x api.Table) api.Table {
	x.Codes = slices.Clone(x.Codes)
	for i := range x.Codes {
		c := &x.Codes[i]
		end := c.List[len(c.List)-1]
		c.Regs, c.Slots = c.Regs+1, c.Slots+1
		c.Consts = append(slices.Clone(c.Consts), sample.Int(77))
		more := []api.Ins{{Op: api.InsConst, Dst: c.Regs - 1, A: len(c.Consts) - 1}, {Op: api.OpMul, Dst: c.Regs - 1, A: c.Regs - 1, B: end.A}, {Op: api.InsStore, A: c.Slots - 1, B: end.A}, {Op: api.InsLoad, Dst: c.Regs - 1, A: c.Slots - 1}}
		c.List = append(slices.Concat(c.List[:len(c.List)-1], more), tell(c.Regs-1))
	}
	return x
}

// unseen is an automaton whose conditions have other numbers at all places that aren't looked at.
func unseen(a api.Auto) api.Auto {
	var other func(l []api.Node) []api.Node
	other = func(l []api.Node) []api.Node {
		l = slices.Clone(l)
		for i := range l {
			n := &l[i]
			n.Args = other(n.Args)
			if isOperator(n.Op) {
				n.Kind, n.Pos, n.Attr, n.Value = 9, 8, 7, sample.Int(6)
			} else if n.Op == api.Const {
				n.Kind, n.Pos, n.Attr = 9, 8, 7
			} else {
				n.Value = sample.Int(6)
			}
		}
		return l
	}
	bars := func(l []api.Bar) []api.Bar {
		l = slices.Clone(l)
		for i := range l {
			l[i].Guards = other(l[i].Guards)
		}
		return l
	}
	a.States = slices.Clone(a.States)
	for i := range a.States {
		s := &a.States[i]
		s.Leaves, s.Guards, s.Bars, s.Ends = other(s.Leaves), other(s.Guards), bars(s.Bars), slices.Clone(s.Ends)
		for j := range s.Ends {
			s.Ends[j].Closes, s.Ends[j].Bars = other(s.Ends[j].Closes), bars(s.Ends[j].Bars)
		}
	}
	return a
}

// P25.3: what isn't looked at may be otherwise.
func TestValid(t *testing.T) {
	r := rand.New(rand.NewPCG(25, 5))
	m, codes := &sample.Maker{Pick: r.IntN}, 0
	for range 4000 {
		a := m.Fitting()
		if r.IntN(2) == 0 {
			var ok bool
			if a, ok = built(t, m.Query(), r.IntN(4)); !ok {
				continue
			}
		}
		x := tableOf(t, coder(r), a)
		codes += len(x.Codes)
		wantValid(t, "as it is", sample.Shop(), a, x, true)
		wantValid(t, "moved", sample.Shop(), a, moved(r, x), true)
		wantValid(t, "idle", sample.Shop(), a, idle(x), true)
		wantValid(t, "other kinds", sample.Shop(), unseen(a), x, true)
		x.Runs, x.Cells = 1+r.IntN(9), 1+r.IntN(9)
		wantValid(t, "other bounds", sample.Shop(), unseen(a), idle(moved(r, x)), true)
	}
	if codes < 5000 {
		t.Errorf("%d codes", codes)
	}
}

// P25.3: one thing that the automaton has otherwise.
func TestAnotherAuto(t *testing.T) {
	more := constant(sample.Bool(1))
	for i, change := range []func(a *api.Auto){
		func(a *api.Auto) { a.Strategy = api.Strict },
		func(a *api.Auto) { a.Strategy = api.Any },
		func(a *api.Auto) { a.Keys = nil },
		func(a *api.Auto) { a.Keys = a.Keys[:2] },
		func(a *api.Auto) { a.Keys[1] = 1 },
		func(a *api.Auto) { a.Keys[2] = 0 },
		func(a *api.Auto) { a.States = nil },
		func(a *api.Auto) { a.States = a.States[:4] },
		func(a *api.Auto) { a.States = append(a.States, a.States[4]) },
		func(a *api.Auto) { a.States[2].Parent = 0 },
		func(a *api.Auto) { a.States[3].Parent = 2 },
		func(a *api.Auto) { a.States[0].Type = 1 },
		func(a *api.Auto) { a.States[0].Many = true },
		func(a *api.Auto) { a.States[1].Many = false },
		func(a *api.Auto) { a.States[4].Window = 8 },
		func(a *api.Auto) { a.States[1].Bars = nil },
		func(a *api.Auto) { a.States[1].Bars = append(a.States[1].Bars, a.States[1].Bars[0]) },
		func(a *api.Auto) { a.States[1].Bars[0].Type = 0 },
		func(a *api.Auto) { a.States[1].Bars[0].Guards = nil },
		func(a *api.Auto) { a.States[1].Bars[0].Guards[0].Op = api.OpNe },
		func(a *api.Auto) { a.States[2].Leaves = nil },
		func(a *api.Auto) { a.States[2].Leaves = a.States[2].Leaves[:1] },
		func(a *api.Auto) { slices.Reverse(a.States[2].Leaves) },
		func(a *api.Auto) { a.States[4].Leaves = []api.Node{more} },
		func(a *api.Auto) { a.States[0].Guards = nil },
		func(a *api.Auto) { a.States[0].Guards = append(a.States[0].Guards, more) },
		func(a *api.Auto) { a.States[0].Guards[0].Args[0].Attr = -1 },
		func(a *api.Auto) { a.States[0].Guards[0].Args[0].Kind = api.Real },
		func(a *api.Auto) { a.States[0].Guards[0].Args[1].Value = sample.Int(2) },
		func(a *api.Auto) { a.States[1].Guards[0].Args[1].Op = api.Max },
		func(a *api.Auto) { slices.Reverse(a.States[1].Guards[0].Args) },
		func(a *api.Auto) { a.States[4].Guards[0].Args[0].Args[1].Pos = 1 },
		func(a *api.Auto) { a.States[2].Ends = nil },
		func(a *api.Auto) { a.States[1].Ends = a.States[2].Ends },
		func(a *api.Auto) { a.States[2].Ends = append(a.States[2].Ends, a.States[4].Ends[0]) },
		func(a *api.Auto) { a.States[2].Ends[0].Branch = 1 },
		func(a *api.Auto) { a.States[2].Ends[0].Closes = []api.Node{more} },
		func(a *api.Auto) { a.States[2].Ends[0].Bars = nil },
		func(a *api.Auto) { a.States[4].Ends[0].Bars = a.States[2].Ends[0].Bars },
		func(a *api.Auto) { a.States[2].Ends[0].Bars[0].Type = 1 },
		func(a *api.Auto) { a.States[2].Ends[0].Bars[0].Guards[0].Args = nil },
		func(a *api.Auto) { a.States[0].Guards = []api.Node{sample.Circle(api.OpAnd, 2)} },
		func(a *api.Auto) { a.States[0].Guards = []api.Node{sample.Shared(api.OpAnd, 300, more)} },
		func(a *api.Auto) { a.States[0].Guards = slices.Repeat([]api.Node{more}, 100000) },
		func(a *api.Auto) { a.States[2].Ends = slices.Repeat(a.States[2].Ends, 100000) },
	} {
		a, x := both(t)
		wantValid(t, "unchanged", sample.Shop(), a, x, true)
		change(&a)
		if !auto.Good(a) {
			t.Errorf("the change %d: not good", i)
		}
		wantValid(t, "changed", sample.Shop(), a, x, false)
	}
}

// P25.3: one thing that the table, which may be run, has otherwise.
func TestAnotherTable(t *testing.T) {
	asked := func(x *api.Table) int {
		x.Codes = append(x.Codes, doubled(0, 0))
		return len(x.Codes) - 1
	}
	for i, change := range []func(x *api.Table){
		func(x *api.Table) { x.Strategy = api.Strict },
		func(x *api.Table) { x.Keys = nil },
		func(x *api.Table) { x.Keys[0] = -1 },
		func(x *api.Table) { x.Kinds, x.Keys = append(x.Kinds, nil), append(x.Keys, -1) },
		func(x *api.Table) { x.Kinds[2] = []int{api.Int} },
		func(x *api.Table) { x.Kinds[1][3] = api.Sym },
		func(x *api.Table) { x.Syms++ },
		func(x *api.Table) { x.Syms-- },
		func(x *api.Table) { x.States = append(x.States, api.Row{Parent: -1, Leave: -1, Guard: -1}) },
		func(x *api.Table) { x.States[1].Bars = append(x.States[1].Bars, api.Stop{Guard: -1}) },
		func(x *api.Table) { x.States[1].Bars[0].Type = 0 },
		func(x *api.Table) { x.States[3].Window++ },
		func(x *api.Table) { x.States[4].Leave = asked(x) },
		func(x *api.Table) { x.States[4].Ends[0].Close = asked(x) },
		func(x *api.Table) { x.States[2].Ends[0].Branch++ },
		func(x *api.Table) { x.States[0].Ends = []api.Tail{{Close: -1}} },
		func(x *api.Table) { x.States[2].Ends[0].Bars[0].Type = 1 },
		func(x *api.Table) {
			one, other := &x.States[2].Ends[0].Bars[0].Guard, &x.States[1].Bars[0].Guard
			*one, *other = *other, *one
		},
		func(x *api.Table) {
			x.States[1].Bars[0].Guard = -1
			x.Codes[1] = x.Codes[len(x.Codes)-1]
			x.Codes, x.States[4].Guard = x.Codes[:len(x.Codes)-1], 1
		},
		func(x *api.Table) { x.States[3].Guard, x.States[0].Guard = x.States[0].Guard, x.States[3].Guard },
		func(x *api.Table) { x.Codes[x.States[0].Guard].Consts[0] = sample.Int(0) },
		func(x *api.Table) { x.Codes[x.States[0].Guard].Inputs[0].Attr = -1 },
		func(x *api.Table) { x.Codes[x.States[2].Leave].List[2].Op = api.OpGe },
		func(x *api.Table) { x.Codes[x.States[3].Guard] = doubled(10, 0) },
		func(x *api.Table) { x.Codes[x.States[3].Guard] = doubled(9, 0) },
	} {
		a, x := both(t)
		change(&x)
		if _, err := load.Load(encoded(t, x)); err != api.OK {
			t.Errorf("the change %d: %d", i, err)
		}
		wantValid(t, "changed", sample.Shop(), a, x, false)
	}
}

// P25.3: schemas that aren't right, or are others; automata that aren't Good; bytes that are no image.
func TestNotValid(t *testing.T) {
	a, x := both(t)
	b := encoded(t, x)
	for i, change := range []func(s *api.Schema){
		func(s *api.Schema) { *s = api.Schema{} },
		func(s *api.Schema) { s.Types[0].Name = "" },
		func(s *api.Schema) { s.Types[0].Name = "B" },
		func(s *api.Schema) { s.Types[0].Fields[0].Name = "x" },
		func(s *api.Schema) { s.Types[0].Fields[0].Kind = api.Int },
		func(s *api.Schema) { s.Types[0].Fields = s.Types[0].Fields[:3] },
		func(s *api.Schema) { s.Types[2].Fields = s.Types[0].Fields[:1] },
		func(s *api.Schema) { s.Types = s.Types[:2] },
		func(s *api.Schema) { s.Types = append(s.Types, api.Type{Name: "D"}) },
		func(s *api.Schema) { s.Types[0], s.Types[2] = s.Types[2], s.Types[0] },
		func(s *api.Schema) { s.Syms = s.Syms[:1] },
		func(s *api.Schema) { s.Syms = append(s.Syms, "cid") },
		func(s *api.Schema) { s.Syms[1] = "1" },
		func(s *api.Schema) { s.Syms[1] = "ann" },
	} {
		s := sample.Shop()
		change(&s)
		if prove.Validate(s, a, b) {
			t.Errorf("the schema's change %d: valid", i)
		}
	}
	other := sample.Shop()
	other.Types[0].Name, other.Types[1].Fields[2].Name, other.Syms[0] = "Z", "w", "zoe"
	if !prove.Validate(other, a, b) {
		t.Error("other names: not valid")
	}
	for i, change := range []func(a *api.Auto){
		func(a *api.Auto) { *a = api.Auto{} },
		func(a *api.Auto) { a.Strategy = 0 },
		func(a *api.Auto) { a.States[0].Parent = -2 },
		func(a *api.Auto) { a.States[1].Parent = 1 },
		func(a *api.Auto) { a.States[1].Type = -1 },
		func(a *api.Auto) { a.States[1].Window = -1 },
		func(a *api.Auto) { a.States[2].Ends[0].Branch = -1 },
		func(a *api.Auto) { a.States = slices.Repeat(a.States, 10) },
	} {
		a, _ := both(t)
		change(&a)
		if prove.Validate(sample.Shop(), a, b) {
			t.Errorf("the automaton's change %d: valid", i)
		}
	}
	spoilt := slices.Clone(b)
	spoilt[20]++
	for i, bytes := range [][]byte{nil, {}, b[:len(b)-1], append(slices.Clone(b), 0), spoilt, []byte("AUSP"), make([]byte, api.MaxImage+1)} {
		if prove.Validate(sample.Shop(), a, bytes) {
			t.Errorf("the bytes %d: valid", i)
		}
	}
	x.Runs = 0
	wantValid(t, "no image that may be run", sample.Shop(), a, x, false)
	empty := api.Auto{Strategy: api.Any}
	wantValid(t, "without states", api.Schema{}, empty, api.Table{Strategy: api.Any, Runs: 1, Cells: 1}, true)
	wantValid(t, "without states", api.Schema{}, empty, api.Table{Strategy: api.Next, Runs: 1, Cells: 1}, false)
}

// validByWords is what the chapter says.
func validByWords(s api.Schema, a api.Auto, b []byte) bool {
	x, err := load.Load(b)
	if err != api.OK || schema.Check(s) != api.OK || !auto.Good(a) {
		return false
	}
	asked := func(l []api.Node, number int) bool {
		wanted, some := prove.Chain(l)
		if !some || number == -1 {
			return !some && number == -1
		}
		n, ok := prove.Meaning(x.Codes[number])
		return ok && alikeByWords(n, wanted)
	}
	bars := func(l []api.Bar, stops []api.Stop) bool {
		good := len(l) == len(stops)
		for i := range l {
			good = good && l[i].Type == stops[i].Type && asked(l[i].Guards, stops[i].Guard)
		}
		return good
	}
	good := x.Strategy == a.Strategy && dump(x.Keys) == dump(a.Keys) && dump(x.Kinds) == dump(event.Kinds(s)) && x.Syms == len(s.Syms) && len(x.States) == len(a.States)
	for i := range a.States {
		if !good {
			return false
		}
		p, q := a.States[i], x.States[i]
		good = p.Parent == q.Parent && p.Type == q.Type && p.Many == q.Many && p.Window == q.Window && bars(p.Bars, q.Bars) &&
			asked(p.Leaves, q.Leave) && asked(p.Guards, q.Guard) && len(p.Ends) == len(q.Ends)
		for j := range p.Ends {
			good = good && p.Ends[j].Branch == q.Ends[j].Branch && asked(p.Ends[j].Closes, q.Ends[j].Close) && bars(p.Ends[j].Bars, q.Ends[j].Bars)
		}
	}
	return good
}
