package alloc_test

import (
	"math"
	"math/rand/v2"
	"slices"
	"testing"

	"auspice/alloc"
	"auspice/api"
	"auspice/fold"
	"auspice/plan"
	"auspice/query"
	"auspice/sample"
	"auspice/ssa"
	"auspice/value"
	"auspice/vm"
)

// values are of all kinds, those too that aren't Clean.
func values() []api.Value {
	return []api.Value{
		{}, {Bits: 7}, {Kind: 5, Bits: 1}, sample.Int(0), sample.Int(1), sample.Int(-7), sample.Int(3), sample.Int(math.MinInt64),
		sample.Bool(0), sample.Bool(1), sample.Bool(2), sample.Sym(1), sample.Sym(api.MaxSyms),
		sample.Real(0), sample.Real(sample.SignBit), sample.Real(sample.One), sample.Real(sample.Infinite), sample.Real(sample.NaN), sample.Real(math.MaxUint64),
	}
}

// handed are some values, as many as are asked for, or fewer, or more.
func handed(r *rand.Rand, count int) []api.Value {
	l, all := []api.Value{}, values()
	for range max(0, count+r.IntN(3)*r.IntN(2)-r.IntN(3)*r.IntN(2)) {
		l = append(l, all[r.IntN(len(all))])
	}
	return l
}

// wantSame runs code, and what it became, on some values; it answers what was told last.
func wantSame(t *testing.T, r *rand.Rand, c, got api.Code) api.Value {
	t.Helper()
	told := api.Value{}
	for range 4 {
		inputs := handed(r, len(c.Inputs))
		told = vm.Run(c, inputs)
		if now := vm.Run(got, inputs); now != told {
			t.Fatalf("of %v: %v, wanted %v: %+v became %+v", inputs, now, told, c, got)
		}
	}
	return told
}

// codeRooms are the addresses of all that code has room for.
func codeRooms(c api.Code) []any {
	return slices.Concat(sample.Addresses(c.List), sample.Addresses(c.Inputs), sample.Addresses(c.Consts))
}

// roomy is the same code, its lists with spare room in which something stands.
func roomy(c api.Code) api.Code {
	c.List = append(slices.Clone(c.List), api.Ins{Op: 1, Dst: 2, A: 3, B: 4})[:len(c.List)]
	c.Inputs = append(slices.Clone(c.Inputs), api.Input{Op: 1, Kind: 2, Pos: 3, Attr: 4})[:len(c.Inputs)]
	c.Consts = append(slices.Clone(c.Consts), sample.Int(9))[:len(c.Consts)]
	return c
}

func spare(c api.Code) string {
	return dump(c) + dump(c.List[:cap(c.List)]) + dump(c.Inputs[:cap(c.Inputs)]) + dump(c.Consts[:cap(c.Consts)])
}

// P19.1: code tells the same with few registers, of whatever values; code with Inputs and Consts that don't fit does too, and keeps them.
func TestTellsTheSame(t *testing.T) {
	r := rand.New(rand.NewPCG(19, 3))
	o, told, good := sample.Odd{Pick: r.IntN}, map[int]int{}, map[bool]int{}
	for range 20000 {
		c := o.Plain()
		if r.IntN(3) == 0 {
			c.Inputs[r.IntN(len(c.Inputs))] = api.Input{Op: o.Number(), Kind: o.Number(), Pos: o.Number(), Attr: o.Number()}
		}
		if r.IntN(3) == 0 {
			loose := values()
			c.Consts[r.IntN(len(c.Consts))] = loose[r.IntN(len(loose))]
		}
		good[vm.Good(c)]++
		got := wantFit(t, c, 2+r.IntN(4))
		if vm.Good(got) != vm.Good(c) {
			t.Fatalf("Good is %v: %+v became %+v", vm.Good(c), c, got)
		}
		told[wantSame(t, r, c, got).Kind]++
	}
	for kind := api.Poison; kind <= api.Real; kind++ {
		if told[kind] < 100 {
			t.Errorf("the kind %d is told %d times", kind, told[kind])
		}
	}
	if good[true] < 1000 || good[false] < 1000 {
		t.Errorf("good are %v", good)
	}
}

// P19.1: each operator, of registers of which one is loaded, or both are, or none is.
func TestOperators(t *testing.T) {
	all := values()
	for _, op := range ops() {
		i := api.Ins{Op: op, Dst: 4, A: 0, B: 1}
		if ofOne(op) {
			i.B = 0
		}
		for told := range 8 {
			c := whole([]api.Ins{{Op: api.InsInput}, {Op: api.InsInput, Dst: 1, A: 1}, {Op: api.InsInput, Dst: 2, A: 2}, {Op: api.InsInput, Dst: 3, A: 3}, i, {Op: api.OpEq, Dst: 5, A: 0, B: 3}, {Op: api.OpOr, Dst: 6, A: 1, B: 2}, {Op: api.OpNe, Dst: 7, A: 6, B: 4}, tell(told)})
			for regs := 2; regs < 6; regs++ {
				got := wantFit(t, c, regs)
				for _, a := range all {
					for _, b := range all {
						inputs := []api.Value{a, b, sample.Int(3), value.Clean(a)}
						if now, wanted := vm.Run(got, inputs), vm.Run(c, inputs); now != wanted {
							t.Fatalf("%d registers, told is %d, of %v: %v, wanted %v: %+v", regs, told, inputs, now, wanted, got)
						}
					}
				}
			}
		}
	}
}

// conditions are all lists of conditions of a query by Shop; none, where its text is too long.
func conditions(t *testing.T, text string) [][]api.Node {
	t.Helper()
	q, _, err := query.Parse(text)
	if err == api.ErrLong {
		return nil
	}
	p, at, made := plan.Make(sample.Shop(), q)
	if err != api.OK || made != api.OK {
		t.Fatalf("no plan: %q: %d, %d at %d", text, err, made, at)
	}
	l := [][]api.Node{}
	for _, b := range p.Branches {
		for _, part := range b.Parts {
			l = append(l, part.Guards, part.Closes)
		}
	}
	return l
}

// P19.1: code of queries' conditions, folded and not, shared and not.
func TestQueries(t *testing.T) {
	r := rand.New(rand.NewPCG(19, 4))
	m, slots := &sample.Maker{Pick: r.IntN}, 0
	for range 5000 {
		for _, l := range conditions(t, m.Query()) {
			if len(l) == 0 {
				continue
			}
			if r.IntN(3) == 0 {
				for i := range l {
					l[i] = fold.Node(l[i])
				}
			}
			for _, share := range []bool{false, true} {
				c, err := ssa.Make(l, share)
				if err != api.OK || !vm.Good(c) {
					t.Fatalf("%+v: %d, Good is %v", l, err, vm.Good(c))
				}
				got := wantFit(t, c, 2+r.IntN(3))
				wantSame(t, r, c, got)
				slots += got.Slots
			}
		}
	}
	if slots < 500 {
		t.Errorf("%d slots", slots)
	}
}

// P19.1: the same arguments, the same answer; nothing that is handed in is changed, and no two share memory.
func TestMemory(t *testing.T) {
	r := rand.New(rand.NewPCG(19, 5))
	for range 200 {
		for _, s := range shapes() {
			c, regs := roomy(random(r, 2+r.IntN(20), s)), 2+r.IntN(3)
			before := spare(c)
			got, err := alloc.Fit(c, regs)
			first := dump(got)
			other, _ := alloc.Fit(c, api.MaxRegs)
			again, _ := alloc.Fit(roomy(c), regs)
			if err != api.OK || first != dump(again) || first != dump(got) {
				t.Fatalf("%d: %s, then %s: %s", err, first, dump(again), before)
			}
			if spare(c) != before || !sample.Once(codeRooms(c), codeRooms(got), codeRooms(other), codeRooms(again)) {
				t.Fatalf("%s is changed, or shares memory", before)
			}
		}
	}
	// nor where there is an error
	for _, c := range []api.Code{behind(2000), row(500), {Regs: 1, List: []api.Ins{{Op: api.OpAdd}, tell(0)}}} {
		c = roomy(c)
		before := spare(c)
		if _, err := alloc.Fit(c, 2); err == api.OK || spare(c) != before {
			t.Errorf("%d, or changed: %s", err, before)
		}
	}
}

// P1, P19.1: code of all sorts, any number of registers: which error there is.
func TestAnyArguments(t *testing.T) {
	o, met := sample.Odd{Pick: rand.New(rand.NewPCG(19, 6)).IntN}, map[api.Errno]int{}
	for range 60000 {
		c, regs := o.Code(), o.Number()
		before, wanted := dump(c), api.OK
		switch {
		case !ssa.Plain(c):
			wanted = api.ErrForm
		case regs < 2 || regs > 16:
			wanted = api.ErrArg
		}
		got, err := alloc.Fit(c, regs)
		if err != wanted || err != api.OK && !none(got) || dump(c) != before {
			t.Fatalf("%d registers of %s: %d, wanted %d, beside %+v; now %+v", regs, before, err, wanted, got, c)
		}
		if err == api.OK {
			wantFit(t, c, regs)
		}
		met[err]++
	}
	if met[api.OK] < 3000 || met[api.ErrArg] < 3000 || met[api.ErrForm] < 3000 {
		t.Errorf("%v", met)
	}
}
