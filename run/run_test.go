package run_test

import (
	"fmt"
	"math"
	"math/rand/v2"
	"slices"
	"testing"

	"auspice/api"
	"auspice/load"
	"auspice/run"
	"auspice/sample"
)

const quiet = "PATTERN SEQ(A+ a, !B b) | SEQ(A c) STRATEGY ANY WITHIN 5"

// The chapter's example.
func TestExample(t *testing.T) {
	x := made(t, "PATTERN SEQ(C a, C+ b) STRATEGY ANY WITHIN 10")
	x.Runs = 3
	r := runner(t, x)
	for i, wanted := range []string{"1 1", "3 3"} {
		pushed(t, r, one(t, "C 0"))
		if state(r) != wanted {
			t.Errorf("behind %d: %s alive", i, state(r))
		}
	}
	wantRefused(t, "the third one", r, one(t, "C 0"), api.ErrRuns)
	wantLatched(t, "the third one", r, 2, api.ErrRuns, one(t, "C 0"), one(t, "C 20"))
}

// P24.2, P24.3: the document's examples of the whole.
func TestExamples(t *testing.T) {
	wantQuery(t, "PATTERN SEQ(A a, B b) STRATEGY ANY WITHIN 10",
		turn{"A 0 ann 1", "1 1", ""}, turn{"B 3 bob 2", "1 1", "1 0: 0; 1"}, turn{"B 11 ann 3", "0 0", ""})
	wantQuery(t, "PATTERN SEQ(A a, B b) STRATEGY ANY WITHIN 10 PARTITION BY k",
		turn{"A 0 ann 1", "1 1", ""}, turn{"B 3 bob 2", "1 1", ""}, turn{"B 11 ann 3", "0 0", ""})
	wantQuery(t, "PATTERN SEQ(A a, B+ b) STRATEGY ANY WITHIN 10",
		turn{"A 0", "1 1", ""}, turn{"B 0", "2 2", "1 0: 0; 1"}, turn{"B 0", "4 4", "2 0: 0; 1 2|2 0: 0; 2"})
	wantQuery(t, "PATTERN SEQ(A a, B+ b) STRATEGY STRICT WITHIN 10",
		turn{"A 0", "1 1", ""}, turn{"B 0", "1 2", "1 0: 0; 1"}, turn{"B 0", "1 3", "2 0: 0; 1 2"})
	wantQuery(t, "PATTERN SEQ(A a, !B t, C c) WHERE t.x > 1 STRATEGY NEXT WITHIN 10",
		turn{"A 0", "1 1", ""}, turn{"B 1 ann 1", "1 1", ""}, turn{"C 2", "0 0", "2 0: 0; 2"}, turn{"A 3", "1 1", ""}, turn{"B 4 ann 2", "0 0", ""}, turn{"C 5", "0 0", ""})
	wantQuery(t, "PATTERN SEQ(A+ a) WHERE COUNT(a) = 0 OR a.x > LAST(a.x) STRATEGY NEXT WITHIN 10",
		turn{"A 0 ann 1", "1 1", "0 0: 0"}, turn{"A 1 ann 3", "2 3", "1 0: 0 1|1 0: 1"}, turn{"A 2 ann 2", "3 4", "2 0: 2"}, turn{"A 3 ann 4", "4 8", "3 0: 0 1 3|3 0: 1 3|3 0: 2 3|3 0: 3"})
	wantQuery(t, "PATTERN SEQ(A a, !B s) STRATEGY ANY WITHIN 5",
		turn{"A 0", "1 1", ""}, turn{"C 6", "0 0", "1 0: 0"}, turn{})
	wantQuery(t, "PATTERN SEQ(A a, !B s) STRATEGY ANY WITHIN 5",
		turn{"A 0", "1 1", ""}, turn{told: "1 0: 0"})
	wantQuery(t, "PATTERN SEQ(A a, B b) WHERE a.x / b.x > 1 STRATEGY ANY WITHIN 5",
		turn{"A 0 ann 4", "1 1", ""}, turn{"B 0 ann 0", "1 1", ""}, turn{"B 0 ann 4", "1 1", ""}, turn{"B 0 ann 2", "1 1", "3 0: 0; 3"})
	wantQuery(t, "PATTERN SEQ(A a, B b) | SEQ(A c, C d) STRATEGY NEXT WITHIN 9",
		turn{"A 0", "2 1", ""}, turn{"C 1", "1 1", "1 1: 0; 1"}, turn{"B 2", "0 0", "2 0: 0; 2"}, turn{"C 9", "0 0", ""})
	_, merged := both(t, "PATTERN SEQ(A a, B b) | SEQ(A c, C d) STRATEGY NEXT WITHIN 9", 3)
	wantTurns(t, "merged", merged,
		turn{"A 0", "1 1", ""}, turn{"C 1", "1 1", "1 1: 0; 1"}, turn{"B 2", "0 0", "2 0: 0; 2"}, turn{"C 9", "0 0", ""})
}

// P24.1: the tables that layer 22 refuses are refused, and others run; nothing is alive at first.
func TestNew(t *testing.T) {
	for i, change := range []func(x *api.Table){
		func(x *api.Table) { *x = api.Table{} },
		func(x *api.Table) { x.Strategy = 0 },
		func(x *api.Table) { x.Runs = 0 },
		func(x *api.Table) { x.Runs = api.MaxLive + 1 },
		func(x *api.Table) { x.Cells = 0 },
		func(x *api.Table) { x.Cells = api.MaxLive + 1 },
		func(x *api.Table) { x.Keys = []int{0} },
		func(x *api.Table) { x.Syms = -1 },
		func(x *api.Table) { x.Kinds[0][0] = 0 },
		func(x *api.Table) { x.States[0].Parent = 0 },
		func(x *api.Table) { x.States[0].Guard = 1 },
		func(x *api.Table) { x.States[0].Ends[0].Branch = api.MaxBranches },
		func(x *api.Table) { x.States[1].Type = 3 },
		func(x *api.Table) { x.States[1].Ends[0].Bars = []api.Stop{{Guard: -2}} },
		func(x *api.Table) { x.Codes = make([]api.Code, 1) },
		func(x *api.Table) { x.States = make([]api.Row, api.MaxStates+1) },
	} {
		x := made(t, quiet)
		change(&x)
		if r, err := run.New(x); r != nil || err != api.ErrImage {
			t.Errorf("the change %d: %v, %d", i, r, err)
		}
	}
	o, answers := sample.Odd{Pick: rand.New(rand.NewPCG(24, 3)).IntN}, map[api.Errno]int{}
	for range 20000 {
		x := changed(o, made(t, "PATTERN SEQ(A+ a, !B b, A+ c) WHERE b.x = COUNT(a) AND a.x > 0 AND MAX(c.x) < 5 STRATEGY NEXT WITHIN 9"))
		r, err := run.New(x)
		if err != load.Verify(x) || (r == nil) != (err != api.OK) {
			t.Fatalf("%+v: %v, %d", x, r, err)
		}
		answers[err]++
		if r != nil {
			wantBad(t, r, 0, api.OK)
			if state(r) != "0 0" {
				t.Errorf("%s alive", state(r))
			}
		}
	}
	if answers[api.OK] < 1000 || answers[api.ErrImage] < 1000 {
		t.Errorf("%v", answers)
	}
}

// changed is a table of which some numbers are others.
func changed(o sample.Odd, x api.Table) api.Table {
	code := func() int { return o.Pick(len(x.Codes)+1) - 1 }
	for range o.Pick(4) {
		s := &x.States[o.Pick(len(x.States))]
		c := &x.Codes[o.Pick(len(x.Codes))]
		i := &c.List[o.Pick(len(c.List))]
		changes := []func(){
			func() { s.Parent = o.Number() },
			func() { s.Type = o.Number() },
			func() { s.Many = !s.Many },
			func() { s.Window = int64(o.Number()) },
			func() { s.Leave, s.Guard = s.Guard, s.Leave },
			func() { s.Guard = code() },
			func() { s.Bars = append(s.Bars, api.Stop{Type: o.Number(), Guard: code()}) },
			func() {
				s.Ends = append(s.Ends, api.Tail{Branch: o.Pick(5), Close: code(), Bars: s.Bars[:o.Pick(1+len(s.Bars))]})
			},
			func() { s.Ends = nil },
			func() { x.Strategy = o.Pick(4) },
			func() { x.Runs, x.Cells = 1+o.Pick(5), o.Number() },
			func() { i.Op = []int{api.OpEq, api.OpNe, api.OpLt, api.OpOr, api.OpAdd, o.Number()}[o.Pick(6)] },
			func() { i.A, i.B = i.B, i.A },
			func() { c.Consts = append(c.Consts, sample.Int(int64(o.Pick(3)))) },
			func() { c.Inputs = append(c.Inputs, c.Inputs...) },
			func() {
				if len(c.Inputs) > 0 {
					c.Inputs[o.Pick(len(c.Inputs))].Op = api.Count + o.Pick(7)
				}
			},
		}
		changes[o.Pick(len(changes))]()
	}
	return x
}

// P24.2: the faults of an event, the first one that applies: those of the table's Kinds and Syms, then the time.
func TestFaults(t *testing.T) {
	good, back, ahead := one(t, "A 5"), one(t, "A 4"), one(t, "A 20")
	attrs := func(change func(l []api.Value)) api.Event {
		e := one(t, "A 5")
		change(e.Attrs)
		return e
	}
	for what, e := range map[string]api.Event{
		"no type":               {Type: 3, Time: 5},
		"a type below":          {Type: -1, Time: 5},
		"a time below":          {Type: 2, Time: -1},
		"a time above":          {Type: 2, Time: api.MaxTime + 1},
		"too few attributes":    {Time: 5, Attrs: good.Attrs[:3]},
		"too many attributes":   {Type: 2, Time: 5, Attrs: good.Attrs},
		"another kind":          attrs(func(l []api.Value) { l[1] = sample.Real(0) }),
		"no value":              attrs(func(l []api.Value) { l[1] = api.Value{} }),
		"a value of other bits": attrs(func(l []api.Value) { l[3] = sample.Bool(2) }),
		"no symbol":             attrs(func(l []api.Value) { l[0] = sample.Sym(2) }),
		"wrong, and back":       {Type: 9, Time: 3},
	} {
		r := runner(t, made(t, quiet))
		if got := pushed(t, r, good); got != "0 1: 0" || state(r) != "2 1" {
			t.Errorf("%s: ahead %s, %s alive", what, got, state(r))
		}
		wantRefused(t, what, r, e, api.ErrEvent)
		wantLatched(t, what, r, 1, api.ErrEvent, good, back, ahead)
	}
	r := runner(t, made(t, quiet))
	pushed(t, r, good)
	wantRefused(t, "back", r, back, api.ErrTime)
	wantLatched(t, "back", r, 1, api.ErrTime, good, ahead, api.Event{Type: 77})
	r = runner(t, made(t, quiet))
	wantRefused(t, "wrong at first", r, api.Event{Type: 9}, api.ErrEvent)
	wantLatched(t, "wrong at first", r, 0, api.ErrEvent, good)
	r = runner(t, made(t, quiet))
	if pushed(t, r, one(t, "A 0")) != "0 1: 0" || pushed(t, r, one(t, "A 0")) != "1 1: 1" || state(r) != "6 3" {
		t.Errorf("the same time again: %s alive", state(r))
	}
	x := made(t, quiet)
	x.Syms = 3
	pushed(t, runner(t, x), attrs(func(l []api.Value) { l[0] = sample.Sym(2) }))
}

// P24.2: more runs and waits than may be, more cells, and both; one more of either is enough, and one less is too few to be wrong.
func TestBounds(t *testing.T) {
	for _, c := range []struct {
		runs, cells int
		at          int // where there are too many
		wanted      api.Errno
	}{
		{1, 100, 0, api.ErrRuns},
		{2, 100, 1, api.ErrRuns},
		{5, 100, 1, api.ErrRuns},
		{6, 100, 2, api.ErrRuns},
		{13, 100, 2, api.ErrRuns},
		{14, 7, 3, api.ErrRuns},
		{14, 6, 2, api.ErrCells},
		{100, 3, 2, api.ErrCells},
		{100, 2, 1, api.ErrCells},
		{100, 1, 1, api.ErrCells},
		{2, 1, 1, api.ErrRuns},
		{1, 1, 0, api.ErrRuns},
	} {
		x := made(t, quiet)
		x.Runs, x.Cells = c.runs, c.cells
		r := runner(t, x)
		for range c.at {
			pushed(t, r, one(t, "A 3"))
		}
		wantRefused(t, "too many", r, one(t, "A 3"), c.wanted)
		wantLatched(t, "too many", r, c.at, c.wanted, one(t, "A 3"), one(t, "A 2"), one(t, "A 20"))
	}
}

// P24.2: what counts is what is alive behind the event: not what ends by it, nor what it makes that can't go on.
func TestBoundsBehind(t *testing.T) {
	x := made(t, "PATTERN SEQ(A a, B b) STRATEGY STRICT WITHIN 9")
	x.Runs, x.Cells = 1, 1
	wantTurns(t, "one run behind the other", x, turn{"A 0", "1 1", ""}, turn{"A 0", "1 1", ""}, turn{"B 0", "0 0", "2 0: 1; 2"}, turn{"A 0", "1 1", ""}, turn{"C 20", "0 0", ""}, turn{"A 20", "1 1", ""})
	x = made(t, "PATTERN SEQ(A a, !B b) STRATEGY ANY WITHIN 5")
	x.Runs, x.Cells = 2, 2
	wantTurns(t, "waits", x, turn{"A 0", "1 1", ""}, turn{"A 1", "2 2", ""}, turn{"A 6", "2 2", "2 0: 0"}, turn{"B 6", "0 0", ""}, turn{"A 6", "1 1", ""}, turn{"A 6", "2 2", ""}, turn{"A 12", "1 1", "6 0: 4|6 0: 5"}, turn{told: "7 0: 6"})
	x = made(t, "PATTERN SEQ(A+ a, B b) STRATEGY NEXT WITHIN 9")
	x.Runs, x.Cells = 3, 6
	r := runner(t, x)
	for _, wanted := range []string{"1 1", "2 3", "3 6"} {
		pushed(t, r, one(t, "A 0"))
		if state(r) != wanted {
			t.Errorf("%s alive, wanted %s", state(r), wanted)
		}
	}
	if got := pushed(t, r, one(t, "B 9")); got != "3 0: 0 1 2; 3|3 0: 1 2; 3|3 0: 2; 3" || state(r) != "0 0" {
		t.Errorf("%s, %s alive", got, state(r))
	}
	// of ten rows one event makes ten matches, four longer rows and another one
	x = made(t, "PATTERN SEQ(A+ a, A b) WHERE (COUNT(a) = 0 OR FIRST(a.x) < 4 AND a.x = 99) AND b.x = 99 STRATEGY NEXT WITHIN 9")
	x.Runs, x.Cells = 10, 10
	r = runner(t, x)
	for i := range 10 {
		pushed(t, r, one(t, fmt.Sprintf("A 0 ann %d", i)))
	}
	if got := pushed(t, r, one(t, "A 0 ann 99")); got != "10 0: 0; 10|10 0: 1; 10|10 0: 2; 10|10 0: 3; 10|10 0: 4; 10|10 0: 5; 10|10 0: 6; 10|10 0: 7; 10|10 0: 8; 10|10 0: 9; 10" || state(r) != "5 9" {
		t.Errorf("%s, %s alive", got, state(r))
	}
}

// P24.3: what is closed is closed; an error ahead of it is told still.
func TestClose(t *testing.T) {
	r := runner(t, made(t, quiet))
	if l := r.Close(); len(l) > 0 || state(r) != "0 0" {
		t.Errorf("closed at first: %s", sample.Lines(l))
	}
	r = runner(t, made(t, quiet))
	for _, e := range sample.Events("A 5|C 6|A 7|B 7|A 8|A 8") {
		pushed(t, r, e)
	}
	if got := sample.Lines(r.Close()); got != "6 0: 0 2 4|6 0: 0 2 4 5|6 0: 0 2 5|6 0: 0 4|6 0: 0 4 5|6 0: 0 5|6 0: 2 4|6 0: 2 4 5|6 0: 2 5|6 0: 4|6 0: 4 5|6 0: 5" {
		t.Errorf("closed: %s", got)
	}
	for range 2 {
		for _, e := range []api.Event{one(t, "A 9"), one(t, "A 0"), {Type: 77}} {
			wantRefused(t, "behind Close", r, e, api.ErrArg)
			wantBad(t, r, 0, api.OK)
		}
		if l := r.Close(); len(l) > 0 || state(r) != "0 0" {
			t.Errorf("closed again: %s, %s alive", sample.Lines(l), state(r))
		}
	}
}

// The rule on nil, and a runner that New didn't make.
func TestNil(t *testing.T) {
	var none *run.Runner
	for range 2 {
		wantRefused(t, "nil", none, one(t, "A 0"), api.ErrArg)
		wantRefused(t, "nil", none, api.Event{Type: 77}, api.ErrArg)
		wantBad(t, none, 0, api.OK)
		if state(none) != "0 0" || len(none.Close()) != 0 {
			t.Error("nil answers something")
		}
	}
	r := &run.Runner{}
	wantBad(t, r, 0, api.OK)
	if len(r.Close()) > 0 || state(r) != "0 0" {
		t.Error("a runner of nothing has something")
	}
	wantRefused(t, "closed", r, one(t, "A 0"), api.ErrArg)
	r = &run.Runner{}
	wantRefused(t, "by no table", r, one(t, "A 0"), api.ErrEvent)
	wantLatched(t, "by no table", r, 0, api.ErrEvent)
}

// P1, and P5 as far as it speaks of runs: whatever table may be run, on whatever events, it stays within its bounds.
func TestAnything(t *testing.T) {
	o := sample.Odd{Pick: rand.New(rand.NewPCG(24, 4)).IntN}
	m := &sample.Maker{Pick: o.Pick}
	ran, told := map[api.Errno]int{}, 0
	for range 4000 {
		a := m.Fitting()
		x := tableOf(t, a, true, 2)
		x.Runs, x.Cells = 1+o.Pick(60), 1+o.Pick(60)
		if len(x.Codes) > 0 {
			x = changed(o, x)
		}
		r, err := run.New(x)
		if err != api.OK {
			continue
		}
		l := m.Script(12)
		if len(l) > 0 && o.Pick(4) == 0 {
			l[o.Pick(len(l))] = api.Event{Type: o.Number(), Time: int64(o.Number())}
		}
		for _, e := range l {
			all, err := r.Push(e)
			ran[err]++
			told += len(all)
			if r.Alive() > x.Runs || r.Cells() > x.Cells || r.Alive() < 0 || r.Cells() < 0 {
				t.Fatalf("%+v over %v: %s alive", x, l, state(r))
			}
		}
		r.Close()
	}
	if ran[api.OK] < 5000 || ran[api.ErrRuns] < 50 || ran[api.ErrCells] < 50 || ran[api.ErrEvent] < 500 || told < 2000 {
		t.Errorf("%v, %d are told", ran, told)
	}
}

// P24.2: times, windows and kinds at their edges.
func TestEdges(t *testing.T) {
	x := made(t, "PATTERN SEQ(C a, C b) STRATEGY ANY WITHIN 1152921504606846976")
	wantTurns(t, "the last time", x, turn{"C 0", "1 1", ""}, turn{"C 1152921504606846976", "2 2", "1 0: 0; 1"}, turn{"C 1152921504606846976", "3 3", "2 0: 0; 2|2 0: 1; 2"})
	x = api.Table{Strategy: api.Any, Syms: api.MaxSyms, Runs: 1, Cells: 1}
	for typ := range api.MaxTypes {
		x.Kinds = append(x.Kinds, slices.Repeat([]int{api.Int + typ%4}, api.MaxAttrs))
	}
	r := runner(t, x)
	for typ := range api.MaxTypes {
		e := api.Event{Type: typ, Attrs: slices.Repeat([]api.Value{{Kind: api.Int + typ%4}}, api.MaxAttrs)}
		if typ%4 == api.Sym-api.Int {
			e.Attrs[7].Bits = api.MaxSyms - 1
		}
		if pushed(t, r, e) != "" || state(r) != "0 0" {
			t.Errorf("%s alive", state(r))
		}
	}
	wantRefused(t, "no type", r, api.Event{Type: api.MaxTypes}, api.ErrEvent)
	r = runner(t, api.Table{Strategy: api.Strict, Runs: 1, Cells: 1})
	wantRefused(t, "no types", r, api.Event{Time: math.MaxInt64}, api.ErrEvent)
}
