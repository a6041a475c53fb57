package load_test

import (
	"math"
	"math/rand/v2"
	"reflect"
	"slices"
	"testing"

	"auspice/api"
	"auspice/load"
	"auspice/sample"
)

// P22.1: the chapter's example.
func TestExample(t *testing.T) {
	x := api.Table{Strategy: api.Any, Kinds: [][]int{{}}, Runs: 1, Cells: 1, States: []api.Row{{Parent: -1, Leave: -1}}, Codes: []api.Code{asks(api.Input{Op: api.Count, Kind: api.Int})}}
	if err := wantVerify(t, "a One", x); err != api.ErrImage {
		t.Errorf("a One: %d", err)
	}
	x.States[0].Many = true
	if err := wantVerify(t, "a Many", x); err != api.OK {
		t.Errorf("a Many: %d", err)
	}
}

// P22.1: tables that may be run, at the edges of what there may be.
func TestMayRun(t *testing.T) {
	for i, change := range []func(x *api.Table){
		func(x *api.Table) {},
		func(x *api.Table) { *x = bare() },
		func(x *api.Table) { *x = api.Table{Strategy: api.Strict, Runs: 1, Cells: 1} },
		func(x *api.Table) { x.Strategy = api.Strict },
		func(x *api.Table) { x.Strategy = api.Any },
		func(x *api.Table) { x.Syms = 0 },
		func(x *api.Table) { x.Syms = api.MaxSyms },
		func(x *api.Table) { x.Runs, x.Cells = 1, api.MaxLive },
		func(x *api.Table) { x.Runs, x.Cells = api.MaxLive, 1 },
		func(x *api.Table) { x.Keys = nil },
		func(x *api.Table) { x.Keys = []int{3, -1, -1} },
		func(x *api.Table) { x.Kinds, x.Keys = append(x.Kinds, make([][]int, 13)...), nil },
		func(x *api.Table) { x.Kinds[1], x.Keys[1] = slices.Repeat([]int{api.Sym}, api.MaxAttrs), 7 },
		func(x *api.Table) { x.States[1].Window, x.States[2].Window = 0, api.MaxTime },
		func(x *api.Table) { x.States[0].Ends = slices.Repeat(x.States[0].Ends, 2000) },
		func(x *api.Table) { x.States[1].Bars = slices.Repeat(x.States[1].Bars, 2000) },
		func(x *api.Table) { x.Codes[0].Regs = api.MaxRegs },
		func(x *api.Table) { x.Codes[0].Slots = api.MaxSlots },
		func(x *api.Table) { x.Codes[0].Consts = slices.Repeat(x.Codes[0].Consts, 2000) },
		func(x *api.Table) { x.States = append(x.States, slices.Repeat(x.States[1:2], 27)...) },
	} {
		x := full()
		change(&x)
		if err := wantVerify(t, "changed", x); err != api.OK {
			t.Errorf("the change %d: %d", i, err)
		}
	}
}

// P22.1: one thing that is otherwise than the first or the second point has it.
func TestBadBounds(t *testing.T) {
	changes := []func(x *api.Table){
		func(x *api.Table) { *x = api.Table{} },
		func(x *api.Table) { x.Strategy = 0 },
		func(x *api.Table) { x.Strategy = api.Any + 1 },
		func(x *api.Table) { x.Syms = -1 },
		func(x *api.Table) { x.Syms = api.MaxSyms + 1 },
		func(x *api.Table) { x.Runs = 0 },
		func(x *api.Table) { x.Runs = api.MaxLive + 1 },
		func(x *api.Table) { x.Cells = 0 },
		func(x *api.Table) { x.Cells = api.MaxLive + 1 },
		func(x *api.Table) { x.Keys = x.Keys[:2] },
		func(x *api.Table) { x.Keys = append(x.Keys, -1) },
		func(x *api.Table) { x.Keys[0] = 4 },
		func(x *api.Table) { x.Keys[1] = 0 },
		func(x *api.Table) { x.Keys[2] = -2 },
		func(x *api.Table) { x.Kinds, x.Keys = append(x.Kinds, make([][]int, 14)...), nil },
		func(x *api.Table) { x.Kinds[1] = slices.Repeat([]int{api.Int}, api.MaxAttrs+1) },
		func(x *api.Table) { x.Kinds[1] = []int{api.Poison} },
		func(x *api.Table) { x.Kinds[1] = []int{api.Int, api.Real + 1} },
		func(x *api.Table) { x.Kinds, x.Keys = nil, nil },
		func(x *api.Table) { x.States = append(x.States, slices.Repeat(x.States[1:2], 28)...) },
		func(x *api.Table) { x.States[1].Parent = 1 },
		func(x *api.Table) { x.States[1].Parent = 2 },
		func(x *api.Table) { x.States[2].Parent = -2 },
		func(x *api.Table) { x.States[3].Parent = 3 },
		func(x *api.Table) { x.States[3].Type = -1 },
		func(x *api.Table) { x.States[3].Type = 3 },
		func(x *api.Table) { x.States[0].Window = -1 },
		func(x *api.Table) { x.States[0].Window = api.MaxTime + 1 },
		func(x *api.Table) { x.States[0].Bars = []api.Stop{{Guard: -1}} },
		func(x *api.Table) { x.States[3].Leave = 11 },
		func(x *api.Table) { x.States[0].Ends[0].Branch = -1 },
		func(x *api.Table) { x.States[2].Ends[1].Branch = api.MaxBranches },
		func(x *api.Table) { x.States[2].Bars[0].Type = -1 },
		func(x *api.Table) { x.States[2].Bars[0].Type = 3 },
		func(x *api.Table) { x.States[2].Ends[1].Bars[0].Type = -1 },
		func(x *api.Table) { x.States[2].Ends[1].Bars[0].Type = 3 },
	}
	for i, change := range changes {
		x := full()
		change(&x)
		if err := wantVerify(t, "changed", x); err != api.ErrImage {
			t.Errorf("the change %d: %d", i, err)
		}
	}
}

// P22.1: as many states as may be, on paths of as many as may be, and of one more.
func TestPaths(t *testing.T) {
	row := func(lengths ...int) api.Table {
		x := api.Table{Strategy: api.Next, Kinds: make([][]int, 1), Runs: 1, Cells: 1}
		for _, length := range lengths {
			for at := range length {
				x.States = append(x.States, api.Row{Parent: max(-1, len(x.States)-1), Leave: -1, Guard: -1})
				if at == 0 {
					x.States[len(x.States)-1].Parent = -1
				}
			}
		}
		return x
	}
	nothing := func(*api.Table) {}
	wantAfter(t, "four paths of eight", row(8, 8, 8, 8), nothing, api.OK)
	wantAfter(t, "one more", row(8, 8, 8, 8, 1), nothing, api.ErrImage)
	wantAfter(t, "no path", row(), nothing, api.OK)
	wantAfter(t, "a path of nine", row(9), nothing, api.ErrImage)
	wantAfter(t, "a path of nine, behind others", row(8, 1, 9), nothing, api.ErrImage)
	wantAfter(t, "32 first states", row(slices.Repeat([]int{1}, 32)...), nothing, api.OK)
	wantAfter(t, "33 first states", row(slices.Repeat([]int{1}, 33)...), nothing, api.ErrImage)
	wantAfter(t, "all behind the seventh one", row(32), func(x *api.Table) {
		for i := 8; i < 32; i++ {
			x.States[i].Parent = 6
		}
	}, api.OK)
	wantAfter(t, "the last one behind the eighth one", row(32), func(x *api.Table) {
		for i := 8; i < 32; i++ {
			x.States[i].Parent = 6 + i/31
		}
	}, api.ErrImage)
}

// P22.1: codes: how many, which, and each of them told.
func TestCodes(t *testing.T) {
	for _, change := range []struct {
		what   string
		change func(x *api.Table)
	}{
		{"one that nothing tells", func(x *api.Table) { x.Codes = append(x.Codes, asks()) }},
		{"one told no more", func(x *api.Table) { x.States[0].Guard = -1 }},
		{"one told twice, another one not", func(x *api.Table) { x.States[4].Ends[0].Bars[0].Guard = x.States[4].Ends[0].Close }},
		{"none", func(x *api.Table) { x.Codes = nil }},
		{"a register too many", func(x *api.Table) { x.Codes[3].Regs = api.MaxRegs + 1 }},
		{"no register", func(x *api.Table) { x.Codes[3].Regs = 0 }},
		{"a slot too many", func(x *api.Table) { x.Codes[3].Slots = api.MaxSlots + 1 }},
		{"no instruction", func(x *api.Table) { x.Codes[3].List = nil }},
		{"nothing told", func(x *api.Table) { l := &x.Codes[17].List; *l = (*l)[:len(*l)-1] }},
		{"a constant that counts as another one", func(x *api.Table) { x.Codes[17].Consts[0].Bits = 2 }},
		{"an input that there isn't", func(x *api.Table) { x.Codes[17].Inputs = nil }},
	} {
		wantAfter(t, change.what, full(), change.change, api.ErrImage)
	}
	for i, s := range spots() {
		for _, n := range []int{math.MinInt, -2, len(spots()), math.MaxInt} {
			wantAfter(t, s.name+" isn't there", full(), func(x *api.Table) { *s.code(x) = n }, api.ErrImage)
		}
		wantAfter(t, s.name+" isn't told", full(), func(x *api.Table) { *s.code(x) = -1 }, api.ErrImage)
		wantAfter(t, s.name+" alone", bare(), func(x *api.Table) { *s.code(x), x.Codes = 0, []api.Code{asks(spots()[i].wanted...)} }, api.OK)
		wantAfter(t, s.name+" alone, and one more", bare(), func(x *api.Table) { *s.code(x), x.Codes = 0, []api.Code{asks(), asks()} }, api.ErrImage)
	}
	wantAfter(t, "one for all", bare(), func(x *api.Table) {
		x.Codes = []api.Code{asks()}
		for _, s := range spots() {
			*s.code(x) = 0
		}
	}, api.OK)
	for _, count := range []int{api.MaxCode - 1, api.MaxCode, api.MaxCode + 1, 3000} {
		wanted := api.OK
		if count > api.MaxCode {
			wanted = api.ErrImage
		}
		wantAfter(t, "as many as are told", bare(), func(x *api.Table) {
			for at := range count {
				x.Codes = append(x.Codes, asks())
				x.States[2].Ends = append(x.States[2].Ends, api.Tail{Close: at})
			}
		}, wanted)
	}
}

// inputs are all that a good code may have, and no others.
func inputs() []api.Input {
	l := []api.Input{}
	for _, op := range []int{api.Cur, api.Of, api.Count, api.First, api.Last, api.Sum, api.Min, api.Max, api.Mean} {
		for kind := api.Int; kind <= api.Real; kind++ {
			for pos := range api.MaxItems {
				for attr := -1; attr < api.MaxAttrs; attr++ {
					if (op != api.Cur || pos == 0) && (op != api.Count || attr == 0) {
						l = append(l, api.Input{Op: op, Kind: kind, Pos: pos, Attr: attr})
					}
				}
			}
		}
	}
	return l
}

// P22.1: at each spot each input, the only one, or behind others; named by an instruction, or not.
func TestInputs(t *testing.T) {
	for _, s := range spots() {
		fit := 0
		for _, x := range inputs() {
			wanted := api.ErrImage
			if slices.Contains(s.wanted, x) {
				wanted = api.OK
				fit++
			}
			unnamed := asks()
			unnamed.Inputs = []api.Input{x}
			for what, c := range map[string]api.Code{"alone": asks(x), "behind others": asks(append(slices.Clone(s.wanted), x)...), "ahead of others": asks(append([]api.Input{x}, s.wanted...)...), "unnamed": unnamed} {
				table := bare()
				*s.code(&table), table.Codes = 0, []api.Code{c}
				if err := load.Verify(table); err != wanted {
					t.Errorf("%s, %s: %+v: %d, wanted %d", s.name, what, x, err, wanted)
				}
			}
		}
		if fit != len(s.wanted) || fit == 0 {
			t.Errorf("%s: %d of %d fit", s.name, fit, len(s.wanted))
		}
	}
}

// P22.1: a code that is told at two spots must fit at both.
func TestInputsTwice(t *testing.T) {
	for _, one := range spots() {
		for _, other := range spots() {
			for _, x := range append(one.wanted, other.wanted...) {
				table := bare()
				*one.code(&table), *other.code(&table), table.Codes = 0, 0, []api.Code{asks(x)}
				if err, fits := load.Verify(table), slices.Contains(one.wanted, x) && slices.Contains(other.wanted, x); fits != (err == api.OK) {
					t.Errorf("%s, and %s: %+v: %d", one.name, other.name, x, err)
				}
			}
		}
	}
}

// odd are numbers at the edges of all that the chapter names, and far beyond.
func odd() []int64 {
	return []int64{math.MinInt64, -2, -1, 0, 1, 2, 3, 4, 5, 7, 8, 9, 16, 17, 32, 63, 64, 65, 256, 257, 1024, 100000, 100001, 1<<60 - 1, 1 << 60, 1<<60 + 1, math.MaxInt64}
}

// P22.1, P1: each number of a table at all edges, against the chapter's words.
func TestNumbers(t *testing.T) {
	x := full()
	numbers, _ := parts(reflect.ValueOf(&x).Elem())
	answers := map[api.Errno]int{}
	for _, v := range numbers {
		had := v.Int()
		for _, n := range odd() {
			v.SetInt(n)
			answers[wantVerify(t, "a number", x)]++
		}
		v.SetInt(had)
	}
	if answers[api.OK] < 500 || answers[api.ErrImage] < 5000 {
		t.Errorf("%v", answers)
	}
}

// P22.1, P1: each list of a table without its first thing, without its last one, with one more, with none.
func TestLists(t *testing.T) {
	x := full()
	_, lists := parts(reflect.ValueOf(&x).Elem())
	answers := map[api.Errno]int{}
	for _, v := range lists {
		had := v.Slice3(0, v.Len(), v.Len())
		others := []reflect.Value{reflect.Append(had, reflect.Zero(v.Type().Elem())), reflect.MakeSlice(v.Type(), 0, 0), reflect.AppendSlice(had, had)}
		if v.Len() > 0 {
			others = append(others, had.Slice(1, v.Len()), had.Slice(0, v.Len()-1))
		}
		for _, l := range others {
			v.Set(l)
			answers[wantVerify(t, "a list", x)]++
		}
		v.Set(had)
	}
	if answers[api.OK] < 30 || answers[api.ErrImage] < 200 {
		t.Errorf("%v", answers)
	}
}

// P22.1: tables of queries' automata may be run; with a few things changed, against the chapter's words.
func TestQueries(t *testing.T) {
	r := rand.New(rand.NewPCG(22, 1))
	m, answers, codes := &sample.Maker{Pick: r.IntN}, map[api.Errno]int{}, 0
	for range 3000 {
		p, ok := sample.Planned(m.Query())
		if !ok {
			continue
		}
		x := tableOf(t, built(t, p, r.IntN(4)), r.IntN(2) == 0, 2+r.IntN(3))
		if err := wantVerify(t, "a query's", x); err != api.OK {
			t.Fatalf("%d: %+v", err, x)
		}
		codes += len(x.Codes)
		for range 4 {
			restore := spoil(r, &x)
			answers[wantVerify(t, "changed", x)]++
			if r.IntN(2) == 0 {
				restore()
			}
		}
	}
	if answers[api.OK] < 2000 || answers[api.ErrImage] < 2000 || codes < 3000 {
		t.Errorf("%v, %d codes", answers, codes)
	}
}

// spoil changes a number, to one at an edge or to another number of the table, and answers what changes it back.
func spoil(r *rand.Rand, x *api.Table) func() {
	things := []any{x, &x.Keys, &x.Kinds, &x.States}
	for i := range x.States {
		things = append(things, &x.States[i], &x.States[i].Ends)
	}
	for i := range x.Codes {
		things = append(things, &x.Codes[i], &x.Codes[i].Inputs, &x.Codes[i].Inputs)
	}
	all, _ := parts(reflect.ValueOf(x).Elem())
	numbers, _ := parts(reflect.ValueOf(things[r.IntN(len(things))]).Elem())
	if len(numbers) == 0 {
		numbers = all
	}
	v := numbers[r.IntN(len(numbers))]
	had, n := v.Int(), all[r.IntN(len(all))].Int()
	if r.IntN(3) == 0 {
		n = odd()[r.IntN(len(odd()))]
	}
	v.SetInt(n)
	return func() { v.SetInt(had) }
}

// P22.1: random automata's tables, most of which ask what there isn't, against the chapter's words.
func TestAutomata(t *testing.T) {
	r := rand.New(rand.NewPCG(22, 2))
	m, answers := &sample.Maker{Pick: r.IntN}, map[api.Errno]int{}
	for range 10000 {
		a := m.Auto(false)
		for i := range a.States {
			if s := &a.States[i]; s.Parent < 0 {
				s.Bars, s.Leaves = nil, nil
			}
		}
		answers[wantVerify(t, "an automaton's", tableOf(t, a, r.IntN(2) == 0, 2))]++
	}
	if answers[api.OK] < 500 || answers[api.ErrImage] < 500 {
		t.Errorf("%v", answers)
	}
}

// Rules, memory: a table stays as it is, spare room included.
func TestVerifyMemory(t *testing.T) {
	for _, change := range []func(x *api.Table){
		func(x *api.Table) {},
		func(x *api.Table) { x.Codes = append(x.Codes, asks()) },
		func(x *api.Table) { x.States[4].Ends[0].Bars[0].Guard = 77 },
	} {
		x := full()
		change(&x)
		_, lists := parts(reflect.ValueOf(&x).Elem())
		rooms := []reflect.Value{}
		for _, v := range slices.Backward(lists) { // those within others first
			l := reflect.MakeSlice(v.Type(), v.Len()+2, v.Len()+2)
			reflect.Copy(l, v)
			rooms = append(rooms, l.Slice(v.Len(), v.Len()+2))
			v.Set(l.Slice(0, v.Len()))
		}
		before := dump(x)
		wantVerify(t, "with room", x)
		load.Path(x, 2)
		if cap(x.States[2].Bars) != len(x.States[2].Bars)+2 || dump(x) != before {
			t.Errorf("%s became %s", before, dump(x))
		}
		for _, l := range rooms {
			if !l.Index(0).IsZero() || !l.Index(1).IsZero() {
				t.Errorf("spare room became %+v", l)
			}
		}
	}
}

// P1: very many Bars, and code of very many inputs that they tell.
func TestLong(t *testing.T) {
	x := full()
	c := asks()
	c.Inputs = slices.Repeat([]api.Input{{Op: api.Cur, Kind: api.Int, Attr: -1}}, 1<<20)
	for i := range x.Codes {
		x.Codes[i] = asks()
	}
	x.Codes[8] = c
	x.States[2].Bars = slices.Repeat(x.States[2].Bars[1:], 1<<20)
	if err := load.Verify(x); err != api.OK {
		t.Errorf("%d", err)
	}
	x.Codes[8].Inputs[1<<20-1].Attr = 7
	if err := load.Verify(x); err != api.ErrImage {
		t.Errorf("%d", err)
	}
	for _, change := range []func(x *api.Table){
		func(x *api.Table) { x.Kinds = make([][]int, 1<<20) },
		func(x *api.Table) { x.Kinds[0] = make([]int, 1<<20) },
		func(x *api.Table) { x.Keys = make([]int, 1<<20) },
		func(x *api.Table) { x.States = make([]api.Row, 1<<20) },
		func(x *api.Table) { x.Codes = make([]api.Code, 1<<20) },
	} {
		x := full()
		change(&x)
		if err := load.Verify(x); err != api.ErrImage {
			t.Errorf("%d", err)
		}
	}
}
