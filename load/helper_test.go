package load_test

import (
	"fmt"
	"reflect"
	"slices"
	"testing"

	"auspice/api"
	"auspice/load"
	"auspice/sample"
	"auspice/vm"
)

// dump tells all that a thing has; empty lists are alike in it.
func dump(x any) string {
	return fmt.Sprintf("%+v", x)
}

// asks is code that looks at these inputs, and tells the last of them; without any it tells a constant.
func asks(inputs ...api.Input) api.Code {
	c := api.Code{Regs: 1, Inputs: inputs, Consts: []api.Value{sample.Bool(1)}, List: []api.Ins{{Op: api.InsConst}}}
	for at := range inputs {
		c.List = append(c.List, api.Ins{Op: api.InsInput, A: at})
	}
	c.List = append(c.List, api.Ins{Op: api.InsTell})
	return c
}

// Types of full's events: t0 has an attribute of each kind, t1 none, t2 one.
const (
	t0 = iota
	t1
	t2
)

// attrs are the kinds of a type's attributes, the time's behind them, and where each one stands.
func attrs(typ int) ([]int, []int) {
	switch typ {
	case t0:
		return []int{api.Int, api.Bool, api.Sym, api.Real, api.Int}, []int{0, 1, 2, 3, -1}
	case t2:
		return []int{api.Real, api.Int}, []int{0, -1}
	}
	return []int{api.Int}, []int{-1}
}

// single are all inputs of that Op that look at an event of a type.
func single(op, pos, typ int) []api.Input {
	l := []api.Input{}
	kinds, places := attrs(typ)
	for i, kind := range kinds {
		l = append(l, api.Input{Op: op, Kind: kind, Pos: pos, Attr: places[i]})
	}
	return l
}

func cur(typ int) []api.Input { return single(api.Cur, 0, typ) }

func one(pos, typ int) []api.Input { return single(api.Of, pos, typ) }

// many are all inputs that look at a position's events of a type.
func many(pos, typ int) []api.Input {
	l := append(single(api.First, pos, typ), single(api.Last, pos, typ)...)
	l = append(l, api.Input{Op: api.Count, Kind: api.Int, Pos: pos})
	for _, op := range []int{api.Sum, api.Min, api.Max} {
		for _, x := range single(op, pos, typ) {
			if x.Kind == api.Int || x.Kind == api.Real {
				l = append(l, x)
			}
		}
	}
	for _, x := range single(api.Mean, pos, typ) {
		if x.Kind == api.Real {
			l = append(l, x)
		}
	}
	return l
}

// spot is where a code of full is told.
type spot struct {
	name   string
	code   func(t *api.Table) *int
	wanted []api.Input // that fit there
}

// spots are at a row of a One of t0, a Many of t0 and a One of t2, and at a first Many of t1 and a Many of t2 behind it.
func spots() []spot {
	return []spot{
		{"the Guard of a first One", func(t *api.Table) *int { return &t.States[0].Guard }, cur(t0)},
		{"the Close of a first One's End", func(t *api.Table) *int { return &t.States[0].Ends[0].Close }, one(0, t0)},
		{"a Bar of a first One's End", func(t *api.Table) *int { return &t.States[0].Ends[0].Bars[0].Guard }, slices.Concat(one(0, t0), cur(t2))},
		{"the Leave behind a One", func(t *api.Table) *int { return &t.States[1].Leave }, one(0, t0)},
		{"the Guard of a Many", func(t *api.Table) *int { return &t.States[1].Guard }, slices.Concat(one(0, t0), many(1, t0), cur(t0))},
		{"a Bar of a Many", func(t *api.Table) *int { return &t.States[1].Bars[0].Guard }, slices.Concat(one(0, t0), cur(t1))},
		{"the Leave behind a Many", func(t *api.Table) *int { return &t.States[2].Leave }, slices.Concat(one(0, t0), many(1, t0))},
		{"the Guard of the last One", func(t *api.Table) *int { return &t.States[2].Guard }, slices.Concat(one(0, t0), many(1, t0), cur(t2))},
		{"a Bar of the last One", func(t *api.Table) *int { return &t.States[2].Bars[1].Guard }, slices.Concat(one(0, t0), many(1, t0), cur(t0))},
		{"the Close of the last One's End", func(t *api.Table) *int { return &t.States[2].Ends[1].Close }, slices.Concat(one(0, t0), many(1, t0), one(2, t2))},
		{"a Bar of the last One's End", func(t *api.Table) *int { return &t.States[2].Ends[1].Bars[1].Guard }, slices.Concat(one(0, t0), many(1, t0), one(2, t2), cur(t0))},
		{"the Guard of a first Many", func(t *api.Table) *int { return &t.States[3].Guard }, slices.Concat(many(0, t1), cur(t1))},
		{"the Close of a first Many's End", func(t *api.Table) *int { return &t.States[3].Ends[0].Close }, many(0, t1)},
		{"the Leave behind a first Many", func(t *api.Table) *int { return &t.States[4].Leave }, many(0, t1)},
		{"the Guard of a Many behind a Many", func(t *api.Table) *int { return &t.States[4].Guard }, slices.Concat(many(0, t1), many(1, t2), cur(t2))},
		{"a Bar of a Many behind a Many", func(t *api.Table) *int { return &t.States[4].Bars[0].Guard }, slices.Concat(many(0, t1), cur(t0))},
		{"the Close of a Many's End", func(t *api.Table) *int { return &t.States[4].Ends[0].Close }, slices.Concat(many(0, t1), many(1, t2))},
		{"a Bar of a Many's End", func(t *api.Table) *int { return &t.States[4].Ends[0].Bars[0].Guard }, slices.Concat(many(0, t1), many(1, t2), cur(t1))},
	}
}

// bare has the states of full, but no code.
func bare() api.Table {
	return api.Table{
		Strategy: api.Next, Keys: []int{2, -1, 0}, Kinds: [][]int{{api.Int, api.Bool, api.Sym, api.Real}, {}, {api.Real}}, Syms: 2, Runs: 7, Cells: 9,
		States: []api.Row{
			{Parent: -1, Type: t0, Window: 9, Leave: -1, Guard: -1, Ends: []api.Tail{{Branch: 1, Close: -1, Bars: []api.Stop{{Type: t2, Guard: -1}}}}},
			{Parent: 0, Type: t0, Many: true, Window: 9, Bars: []api.Stop{{Type: t1, Guard: -1}}, Leave: -1, Guard: -1},
			{Parent: 1, Type: t2, Window: 8, Bars: []api.Stop{{Type: t1, Guard: -1}, {Type: t0, Guard: -1}}, Leave: -1, Guard: -1, Ends: []api.Tail{{Close: -1}, {Branch: 3, Close: -1, Bars: []api.Stop{{Type: t1, Guard: -1}, {Type: t0, Guard: -1}}}}},
			{Parent: -1, Type: t1, Many: true, Leave: -1, Guard: -1, Ends: []api.Tail{{Branch: 2, Close: -1}}},
			{Parent: 3, Type: t2, Many: true, Window: 5, Bars: []api.Stop{{Type: t0, Guard: -1}}, Leave: -1, Guard: -1, Ends: []api.Tail{{Branch: 2, Close: -1, Bars: []api.Stop{{Type: t1, Guard: -1}}}}},
		},
	}
}

// full tells at each spot a code that looks at all that it may look at.
func full() api.Table {
	t := bare()
	for _, s := range spots() {
		*s.code(&t) = len(t.Codes)
		t.Codes = append(t.Codes, asks(s.wanted...))
	}
	return t
}

// parts are all numbers that a thing has, and all its lists.
func parts(v reflect.Value) (numbers, lists []reflect.Value) {
	below := []reflect.Value{}
	switch v.Kind() {
	case reflect.Int, reflect.Int64:
		numbers = append(numbers, v)
	case reflect.Struct:
		for at := range v.NumField() {
			below = append(below, v.Field(at))
		}
	case reflect.Slice:
		lists = append(lists, v)
		for at := range v.Len() {
			below = append(below, v.Index(at))
		}
	}
	for _, x := range below {
		n, l := parts(x)
		numbers, lists = append(numbers, n...), append(lists, l...)
	}
	return numbers, lists
}

// telling is a line of the chapter's table, for a code that is told.
type telling struct {
	code        int
	path        []int
	ones, manys int // so many positions of each
	asked       int // -1: none
}

func tellings(t api.Table) []telling {
	l := []telling{}
	for i, s := range t.States {
		path := []int{i}
		for at := s.Parent; at >= 0; at = t.States[at].Parent {
			path = append([]int{at}, path...)
		}
		own := len(path) - 1
		l = append(l, telling{s.Guard, path, own, own + 1, s.Type}, telling{s.Leave, path[:own], own, own, -1})
		for _, stop := range s.Bars {
			l = append(l, telling{stop.Guard, path[:own], own, own, stop.Type})
		}
		for _, end := range s.Ends {
			l = append(l, telling{end.Close, path, own + 1, own + 1, -1})
			for _, stop := range end.Bars {
				l = append(l, telling{stop.Guard, path, own + 1, own + 1, stop.Type})
			}
		}
	}
	return l
}

// fitting are all inputs that fit there.
func fitting(t api.Table, x telling) map[api.Input]int {
	l := map[api.Input]int{}
	add := func(typ, pos int, ops ...int) {
		for attr, kind := range append([]int{api.Int}, t.Kinds[typ]...) {
			for _, op := range ops {
				l[api.Input{Op: op, Kind: kind, Pos: pos, Attr: attr - 1}]++
			}
		}
	}
	if x.asked >= 0 {
		add(x.asked, 0, api.Cur)
	}
	for pos, i := range x.path {
		s := t.States[i]
		switch {
		case !s.Many && pos < x.ones:
			add(s.Type, pos, api.Of)
		case s.Many && pos < x.manys:
			add(s.Type, pos, api.First, api.Last, api.Sum, api.Min, api.Max, api.Mean)
			l[api.Input{Op: api.Count, Kind: api.Int, Pos: pos}]++
		}
	}
	for input := range l {
		number := input.Kind == api.Int || input.Kind == api.Real
		if !number && slices.Contains([]int{api.Sum, api.Min, api.Max}, input.Op) || input.Op == api.Mean && input.Kind != api.Real {
			delete(l, input)
		}
	}
	return l
}

func from(n, least, most int) bool { return least <= n && n <= most }

// headByWords is the chapter's first point.
func headByWords(t api.Table) bool {
	good := from(t.Strategy, 1, 3) && len(t.Kinds) <= 16 && from(t.Syms, 0, 64) && from(t.Runs, 1, 100000) && from(t.Cells, 1, 100000)
	good = good && (len(t.Keys) == 0 || len(t.Keys) == len(t.Kinds))
	for typ, kinds := range t.Kinds {
		good = good && len(kinds) <= 8
		for _, kind := range kinds {
			good = good && from(kind, 1, 4)
		}
		if good && len(t.Keys) > 0 {
			good = from(t.Keys[typ], -1, len(kinds)-1)
		}
	}
	return good
}

// statesByWords is the second one.
func statesByWords(t api.Table) bool {
	good := len(t.States) <= 32
	for i, s := range t.States {
		good = good && from(s.Parent, -1, i-1) && from(s.Type, 0, len(t.Kinds)-1) && s.Window >= 0 && s.Window <= 1<<60
		good = good && (s.Parent != -1 || len(s.Bars) == 0 && s.Leave == -1)
		stops := s.Bars
		for _, end := range s.Ends {
			good = good && from(end.Branch, 0, 3)
			stops = append(slices.Clip(stops), end.Bars...)
		}
		for _, stop := range stops {
			good = good && from(stop.Type, 0, len(t.Kinds)-1)
		}
	}
	return good
}

// byWords is what the chapter says of a table.
func byWords(t api.Table) bool {
	if !headByWords(t) || !statesByWords(t) || len(t.Codes) > 1024 {
		return false
	}
	told := map[int]int{-1: 1}
	for _, x := range tellings(t) {
		if x.code < -1 || x.code >= len(t.Codes) || len(x.path) > 8 {
			return false
		}
		told[x.code]++
		if x.code == -1 {
			continue
		}
		fit := fitting(t, x)
		for _, input := range t.Codes[x.code].Inputs {
			if fit[input] == 0 {
				return false
			}
		}
	}
	return len(told) == 1+len(t.Codes) && !slices.ContainsFunc(t.Codes, func(c api.Code) bool { return !vm.Good(c) || c.Regs > 16 })
}

// wantVerify holds Verify against the chapter's words.
func wantVerify(t *testing.T, what string, x api.Table) api.Errno {
	t.Helper()
	wanted := api.ErrImage
	if byWords(x) {
		wanted = api.OK
	}
	err := load.Verify(x)
	if err != wanted {
		t.Fatalf("%s: %d, wanted %d: %s", what, err, wanted, dump(x))
	}
	return err
}

// wantAfter holds Verify of a table, changed, against what is wanted.
func wantAfter(t *testing.T, what string, x api.Table, change func(x *api.Table), wanted api.Errno) {
	t.Helper()
	change(&x)
	if err := wantVerify(t, what, x); err != wanted {
		t.Errorf("%s: %d, wanted %d", what, err, wanted)
	}
}

// built is the automaton of a plan, as the compiler may rewrite it.
func built(t *testing.T, p api.Plan, level int) api.Auto {
	t.Helper()
	a, ok := sample.Level(p, level)
	if !ok {
		t.Fatalf("no automaton: %+v", p)
	}
	return a
}

// tableOf is an automaton, by Shop, as a table.
func tableOf(t *testing.T, a api.Auto, share bool, regs int) api.Table {
	t.Helper()
	x, ok := (&sample.Coder{Share: share, Regs: regs}).Table(a)
	if !ok {
		t.Fatalf("no table: %+v", a)
	}
	return x
}
