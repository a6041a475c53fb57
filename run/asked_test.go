package run_test

import (
	"slices"
	"strings"
	"testing"

	"auspice/api"
	"auspice/eval"
	"auspice/sample"
)

// tells is code that tells a constant; asks is code that tells whether an input is a constant.
func tells(v api.Value) api.Code {
	return api.Code{Regs: 1, Consts: []api.Value{v}, List: []api.Ins{{Op: api.InsConst}, {Op: api.InsTell}}}
}

func asks(x api.Input, v api.Value) api.Code {
	return api.Code{Regs: 2, Inputs: []api.Input{x}, Consts: []api.Value{v}, List: []api.Ins{{Op: api.InsInput}, {Op: api.InsConst, Dst: 1}, {Op: api.OpEq, B: 1}, {Op: api.InsTell}}}
}

// spot is where a code is told; a match that the script tells if its conditions hold, and one if they don't; what is bound and which event is asked, when that hangs on it.
type spot struct {
	name     string
	code     func(x *api.Table) *int
	yes, no  string
	bound    [][]int
	cur, typ int // -1: none is asked
}

func spots() []spot {
	ahead, all := [][]int{{0, 1, 2}}, [][]int{{0, 1, 2}, {4}}
	return []spot{
		{"a Close", func(x *api.Table) *int { return &x.States[0].Ends[0].Close }, "2 2: 0 1 2", "", ahead, -1, -1},
		{"a Leave", func(x *api.Table) *int { return &x.States[1].Leave }, "4 1: 0 1 2; 4", "", ahead, -1, -1},
		{"a Guard", func(x *api.Table) *int { return &x.States[1].Guard }, "4 1: 0 1 2; 4", "", ahead, 4, 1},
		{"a Bar", func(x *api.Table) *int { return &x.States[1].Bars[0].Guard }, "", "4 1: 0 1 2; 4", ahead, 3, 2},
		{"a Close behind a child", func(x *api.Table) *int { return &x.States[1].Ends[0].Close }, "4 1: 0 1 2; 4", "", all, -1, -1},
		{"a wait's Close", func(x *api.Table) *int { return &x.States[1].Ends[1].Close }, "6 3: 0 1 2; 4", "", all, -1, -1},
		{"a wait's Bar", func(x *api.Table) *int { return &x.States[1].Ends[1].Bars[0].Guard }, "", "6 3: 0 1 2; 4", all, 5, 2},
	}
}

// telling is a Many of A, and a One of B behind it. Where the code isn't that of a Bar, no Bar comes.
func telling(s spot, c api.Code) api.Table {
	never := api.Stop{Type: 3, Guard: -1}
	x := api.Table{Strategy: api.Any, Kinds: [][]int{{api.Sym, api.Int, api.Real, api.Bool}, {api.Sym, api.Int, api.Real, api.Bool}, {}, {}}, Syms: 2, Runs: 99, Cells: 99, Codes: []api.Code{c}}
	x.States = []api.Row{
		{Parent: -1, Many: true, Window: 9, Leave: -1, Guard: -1, Ends: []api.Tail{{Branch: 2, Close: -1}}},
		{Parent: 0, Type: 1, Window: 9, Bars: []api.Stop{never}, Leave: -1, Guard: -1, Ends: []api.Tail{{Branch: 1, Close: -1}, {Branch: 3, Close: -1, Bars: []api.Stop{never}}}},
	}
	*s.code(&x) = 0
	for _, bar := range []*api.Stop{&x.States[1].Bars[0], &x.States[1].Ends[1].Bars[0]} {
		if bar.Guard == 0 {
			bar.Type = 2
		}
	}
	return x
}

// events are three of A, one of C, one of B, one of C.
func events(t *testing.T) []api.Event {
	t.Helper()
	l := sample.Events("A 0 ann 3|A 1 bob 1|A 2 ann 2|C 3|B 4 bob 7|C 5")
	for i, bits := range map[int]uint64{0: sample.One, 1: 0, 2: sample.One + 1, 4: sample.SignBit + sample.One} {
		l[i].Attrs[2], l[i].Attrs[3] = sample.Real(bits), sample.Bool(uint64(i/2%2))
	}
	return l
}

// wantTold runs a table whose conditions hold, or don't.
func wantTold(t *testing.T, s spot, c api.Code, hold bool) {
	t.Helper()
	r, lines := runner(t, telling(s, c)), []string{}
	for _, e := range events(t) {
		lines = append(lines, strings.Split(pushed(t, r, e), "|")...)
	}
	lines = append(lines, strings.Split(sample.Lines(r.Close()), "|")...)
	wanted, other := s.no, s.yes
	if hold {
		wanted, other = other, wanted
	}
	if wanted != "" && !slices.Contains(lines, wanted) || other != "" && slices.Contains(lines, other) {
		t.Errorf("%s: %+v: %v, wanted %q without %q", s.name, c, lines, wanted, other)
	}
}

// P24.2: conditions hold that are told by a code that tells the Bool 1, and by no other value, wherever they are told.
func TestHold(t *testing.T) {
	for _, s := range spots() {
		wantTold(t, s, tells(sample.Bool(1)), true)
		for _, v := range []api.Value{sample.Bool(0), {}, sample.Int(1), sample.Sym(1), sample.Real(1), sample.Real(sample.One)} {
			wantTold(t, s, tells(v), false)
		}
	}
}

// P24.2: the first Guard, which is asked of each event, and what isn't asked.
func TestFirstGuard(t *testing.T) {
	for v, wanted := range map[api.Value]string{sample.Bool(1): "3 3", sample.Bool(0): "0 0", sample.Int(1): "0 0", {}: "0 0"} {
		x := telling(spots()[0], tells(v))
		x.States[0].Guard, x.States[0].Ends[0].Close = 0, -1
		r := runner(t, x)
		pushed(t, r, one(t, "A 0"))
		pushed(t, r, one(t, "A 0"))
		if state(r) != wanted {
			t.Errorf("%v: %s alive, wanted %s", v, state(r), wanted)
		}
	}
	for _, c := range []struct {
		input  api.Input
		v      int64
		wanted string
	}{
		{api.Input{Op: api.Cur, Kind: api.Int, Attr: 1}, 1, "0 2: 0|1 2: 0 1|1 2: 1|2 2: 2"},
		{api.Input{Op: api.First, Kind: api.Int, Attr: 1}, 3, "0 2: 0|1 2: 0 1|1 2: 1|2 2: 0 1 2|2 2: 0 2|2 2: 2"},
		{api.Input{Op: api.Last, Kind: api.Int, Attr: 1}, 1, "0 2: 0|1 2: 1|2 2: 1 2|2 2: 2"},
		{api.Input{Op: api.Count, Kind: api.Int}, 1, "0 2: 0|1 2: 0 1|1 2: 1|2 2: 0 2|2 2: 1 2|2 2: 2"},
		{api.Input{Op: api.Max, Kind: api.Int, Attr: -1}, 0, "0 2: 0|1 2: 0 1|1 2: 1|2 2: 0 2|2 2: 2"},
	} {
		x := telling(spots()[0], beginsOr(c.input, c.v))
		x.States[0].Guard, x.States[0].Ends[0].Close = 0, -1
		r, l := runner(t, x), []string{}
		for _, e := range events(t)[:3] {
			l = append(l, pushed(t, r, e))
		}
		if got := strings.Join(l, "|"); got != c.wanted {
			t.Errorf("%+v is %d: %s, wanted %s", c.input, c.v, got, c.wanted)
		}
	}
}

// beginsOr is code of a first Many's Guard: there is no event ahead, or an input is that number.
func beginsOr(x api.Input, v int64) api.Code {
	return api.Code{Regs: 3, Inputs: []api.Input{x, {Op: api.Count, Kind: api.Int}}, Consts: []api.Value{sample.Int(0), sample.Int(v)}, List: []api.Ins{
		{Op: api.InsInput, A: 1}, {Op: api.InsConst, Dst: 1}, {Op: api.OpEq, B: 1},
		{Op: api.InsInput, Dst: 1}, {Op: api.InsConst, Dst: 2, A: 1}, {Op: api.OpEq, Dst: 1, A: 1, B: 2},
		{Op: api.OpOr, B: 1}, {Op: api.InsTell},
	}}
}

// fitting are all inputs that fit there, with what they are there.
func fitting(s spot) []api.Input {
	kinds, l := []int{api.Sym, api.Int, api.Real, api.Bool, api.Int}, []api.Input{{Op: api.Count, Kind: api.Int}}
	for attr, kind := range kinds {
		if attr == 4 {
			attr = -1
		}
		if s.typ == 1 || s.typ == 2 && attr == -1 {
			l = append(l, api.Input{Op: api.Cur, Kind: kind, Attr: attr})
		}
		if len(s.bound) > 1 {
			l = append(l, api.Input{Op: api.Of, Kind: kind, Pos: 1, Attr: attr})
		}
		ops := []int{api.First, api.Last}
		if kind == api.Int || kind == api.Real {
			ops = append(ops, api.Sum, api.Min, api.Max)
		}
		if kind == api.Real {
			ops = append(ops, api.Mean)
		}
		for _, op := range ops {
			l = append(l, api.Input{Op: op, Kind: kind, Attr: attr})
		}
	}
	return l
}

// P24.2: code is handed what its inputs are by layer 9, of what is bound and of the event that is asked, wherever it is told.
func TestInputs(t *testing.T) {
	for _, s := range spots() {
		for _, x := range fitting(s) {
			v := eval.Node(api.Node{Op: x.Op, Pos: x.Pos, Attr: x.Attr}, eval.Look{Events: events(t), Bound: s.bound, Cur: s.cur})
			if v.Kind != x.Kind {
				t.Fatalf("%s: %+v is %v", s.name, x, v)
			}
			wantTold(t, s, asks(x, v), true)
			v.Bits ^= 1
			wantTold(t, s, asks(x, v), false)
			several := asks(x, v)
			several.Inputs = append(fitting(s), x)
			several.List[0].A = len(several.Inputs) - 1
			wantTold(t, s, several, false)
			several.Consts[0].Bits ^= 1
			wantTold(t, s, several, true)
		}
	}
}
