package step_test

import (
	"math"
	"math/rand/v2"
	"testing"

	"auspice/api"
	"auspice/auto"
	"auspice/event"
	"auspice/model"
	"auspice/sample"
	"auspice/step"
)

const quiet = "PATTERN SEQ(A+ a, !B b) | SEQ(A c) STRATEGY ANY WITHIN 5"

// wantRefused pushes what is answered with an error; nothing is told with it.
func wantRefused(t *testing.T, what string, m *step.Machine, e api.Event, wanted api.Errno) {
	t.Helper()
	if l, err := m.Push(e); len(l) > 0 || err != wanted {
		t.Errorf("%s: %s, %d, wanted %d", what, sample.Lines(l), err, wanted)
	}
}

// faulty are automata that aren't Good.
func faulty(t *testing.T) []api.Auto {
	t.Helper()
	l := []api.Auto{{}}
	for _, change := range []func(a *api.Auto){
		func(a *api.Auto) { a.Strategy = 0 },
		func(a *api.Auto) { a.Strategy = 4 },
		func(a *api.Auto) { a.States = make([]api.State, api.MaxStates+1) },
		func(a *api.Auto) { a.States[0].Parent = 0 },
		func(a *api.Auto) { a.States[1].Parent = -2 },
		func(a *api.Auto) { a.States[0].Type = -1 },
		func(a *api.Auto) { a.States[1].Window = -1 },
		func(a *api.Auto) { a.States[1].Window = api.MaxTime + 1 },
		func(a *api.Auto) { a.States[1].Ends[0].Branch = -1 },
	} {
		a := made(t, quiet)
		change(&a)
		l = append(l, a)
	}
	return l
}

// P15.1, P15.4: an automaton that isn't Good is refused.
func TestNew(t *testing.T) {
	for i, a := range faulty(t) {
		if m, err := step.New(sample.Shop(), a); m != nil || err != api.ErrForm {
			t.Errorf("%d: %v, %d", i, m, err)
		}
		for _, l := range [][]api.Event{nil, sample.Events("A 0"), {{Type: 77}}} {
			if found, at, err := step.Run(sample.Shop(), a, l); len(found) > 0 || at != 0 || err != api.ErrForm {
				t.Errorf("%d: %s, %d at %d", i, sample.Lines(found), err, at)
			}
		}
	}
	for _, s := range []api.Schema{sample.Shop(), {}, {Types: make([]api.Type, 99)}} {
		for _, a := range []api.Auto{made(t, quiet), {Strategy: api.Any}, {Strategy: api.Next, Keys: []int{-7}, States: []api.State{{Parent: -1, Type: math.MaxInt}}}} {
			if m, err := step.New(s, a); m == nil || err != api.OK || state(m) != "0 0" {
				t.Errorf("%v: %d", a, err)
			}
		}
	}
}

// P15.2: the faults of an event, the first one that applies; behind one nothing is alive, and it is told for ever.
func TestFaults(t *testing.T) {
	good, back, ahead := one(t, "A 5"), one(t, "A 4"), one(t, "A 20")
	wrong := map[string]api.Event{
		"no type":             {Type: 3, Time: 5},
		"a type below":        {Type: -1, Time: 5},
		"a time below":        {Type: 2, Time: -1},
		"a time above":        {Type: 2, Time: api.MaxTime + 1},
		"too few attributes":  {Time: 5, Attrs: good.Attrs[:3]},
		"too many attributes": {Type: 2, Time: 5, Attrs: good.Attrs},
		"another kind":        {Time: 5, Attrs: append(append([]api.Value{}, good.Attrs[:3]...), sample.Int(1))},
		"wrong, and back":     {Type: 9, Time: 3},
	}
	for what, e := range wrong {
		wantLatched(t, what, e, api.ErrEvent, good, back, ahead, api.Event{Type: 77})
	}
	wantLatched(t, "back", back, api.ErrTime, good, back, ahead, api.Event{Type: 77})
	m := machine(t, made(t, quiet))
	wantRefused(t, "wrong at first", m, api.Event{Type: 9}, api.ErrEvent)
	m = machine(t, made(t, quiet))
	if pushed(t, m, one(t, "A 0")) != "0 1: 0" || pushed(t, m, one(t, "A 0")) != "1 1: 1" || state(m) != "6 3" {
		t.Errorf("the same time again: %s alive", state(m))
	}
}

// wantLatched pushes a good event, one that is refused, and others.
func wantLatched(t *testing.T, what string, e api.Event, wanted api.Errno, good api.Event, others ...api.Event) {
	t.Helper()
	m := machine(t, made(t, quiet))
	if got := pushed(t, m, good); got != "0 1: 0" || state(m) != "2 1" {
		t.Errorf("%s: ahead %s, %s alive", what, got, state(m))
	}
	wantRefused(t, what, m, e, wanted)
	for range 2 {
		for _, other := range others {
			if state(m) != "0 0" {
				t.Errorf("%s: %s alive", what, state(m))
			}
			wantRefused(t, what+", behind it", m, other, wanted)
		}
		if l := m.Close(); len(l) > 0 {
			t.Errorf("%s: closed: %s", what, sample.Lines(l))
		}
	}
}

// P15.2: by a schema that layer 3 refuses no event is valid.
func TestFaultySchema(t *testing.T) {
	s := sample.Shop()
	s.Syms[1] = "ann"
	m, err := step.New(s, made(t, quiet))
	if err != api.OK {
		t.Fatalf("New: %d", err)
	}
	wantRefused(t, "two symbols of one name", m, one(t, "C 0"), api.ErrEvent)
}

// P15.3: what is closed is closed.
func TestClose(t *testing.T) {
	m := machine(t, made(t, quiet))
	if l := m.Close(); len(l) > 0 || state(m) != "0 0" {
		t.Errorf("closed at first: %s", sample.Lines(l))
	}
	m = machine(t, made(t, quiet))
	for _, e := range sample.Events("A 5|C 6|A 7|B 7|A 8|A 8") {
		pushed(t, m, e)
	}
	if got := sample.Lines(m.Close()); got != "6 0: 0 2 4|6 0: 0 2 4 5|6 0: 0 2 5|6 0: 0 4|6 0: 0 4 5|6 0: 0 5|6 0: 2 4|6 0: 2 4 5|6 0: 2 5|6 0: 4|6 0: 4 5|6 0: 5" {
		t.Errorf("closed: %s", got)
	}
	for range 2 {
		for _, e := range []api.Event{one(t, "A 9"), one(t, "A 0"), {Type: 77}} {
			wantRefused(t, "behind Close", m, e, api.ErrArg)
		}
		if l := m.Close(); len(l) > 0 || state(m) != "0 0" {
			t.Errorf("closed again: %s, %s alive", sample.Lines(l), state(m))
		}
	}
}

// P15.4: all that is told, up to the first error, which is layer 4's.
func TestRun(t *testing.T) {
	a := made(t, quiet)
	for _, c := range []struct {
		events, wanted string
		at             int
		err            api.Errno
	}{
		{"", "", 0, api.OK},
		{"C 3", "", 0, api.OK},
		{"A 5|A 6|B 11|C 12", "0 1: 0|1 1: 1|2 0: 0|2 0: 0 1", 0, api.OK},
		{"A 5|A 6|B 11|A 11", "0 1: 0|1 1: 1|2 0: 0|2 0: 0 1|3 1: 3|4 0: 1 3|4 0: 3", 0, api.OK},
		{"A 5|A 6|C 11|A 10|A 12", "0 1: 0|1 1: 1|2 0: 0|2 0: 0 1", 3, api.ErrTime},
		{"A 5|A 4", "0 1: 0", 1, api.ErrTime},
	} {
		found, at, err := step.Run(sample.Shop(), a, sample.Events(c.events))
		if sample.Lines(found) != c.wanted || at != c.at || err != c.err {
			t.Errorf("%s: %s, %d at %d; wanted %s, %d at %d", c.events, sample.Lines(found), err, at, c.wanted, c.err, c.at)
		}
	}
	for at := range 3 {
		l := sample.Events("A 5|A 6|C 6")
		l[at].Type = 9
		found, got, err := step.Run(sample.Shop(), a, l)
		if sample.Lines(found) != []string{"", "0 1: 0", "0 1: 0|1 1: 1"}[at] || got != at || err != api.ErrEvent {
			t.Errorf("wrong at %d: %s, %d at %d", at, sample.Lines(found), err, got)
		}
	}
}

// P15.4, P15.6: the first error of random scripts with faults is that of layer 4's Script, and what is told ahead of it is what is told of the events ahead.
func TestRunRandom(t *testing.T) {
	m := &sample.Maker{Pick: rand.New(rand.NewPCG(15, 6)).IntN}
	faults := map[api.Errno]int{}
	for range 10000 {
		a, l := m.Auto(false), m.Script(10)
		for range m.Pick(3) * min(1, len(l)) {
			e := &l[m.Pick(len(l))]
			e.Time += int64(m.Pick(5) - 2)
			e.Type += m.Pick(2) * m.Pick(2)
		}
		found, at, err := step.Run(sample.Shop(), a, l)
		wantedAt, wanted := event.Script(sample.Shop(), l)
		if at != wantedAt || err != wanted {
			t.Fatalf("Run over %v: %d at %d, wanted %d at %d", l, err, at, wanted, wantedAt)
		}
		faults[err]++
		if err == api.OK {
			continue
		}
		again, _, _ := step.Run(sample.Shop(), a, l[:at])
		for len(again) > 0 && again[len(again)-1].Step >= at {
			again = again[:len(again)-1]
		}
		if sample.Lines(found) != sample.Lines(again) {
			t.Fatalf("%+v over %v: %s, wanted %s", a, l, sample.Lines(found), sample.Lines(again))
		}
	}
	if faults[api.OK] < 500 || faults[api.ErrEvent] < 500 || faults[api.ErrTime] < 500 {
		t.Errorf("there are %v", faults)
	}
}

// P15.6: where a script is faulty Run has layer 11's error and place.
func TestModelFaults(t *testing.T) {
	p, _ := sample.Planned(quiet)
	for _, l := range [][]api.Event{sample.Events("A 5|A 4"), {{Type: 9}}, sample.Events("A 5|C 7|A 6|A 5")} {
		_, at, err := step.Run(sample.Shop(), built(t, p), l)
		if _, wantedAt, wanted := model.Matches(sample.Shop(), p, l); at != wantedAt || err != wanted || err == api.OK {
			t.Errorf("%v: %d at %d, wanted %d at %d", l, err, at, wanted, wantedAt)
		}
	}
}

// The rule on nil, and a machine that New didn't make.
func TestNil(t *testing.T) {
	var none *step.Machine
	for range 2 {
		wantRefused(t, "nil", none, one(t, "A 0"), api.ErrArg)
		wantRefused(t, "nil", none, api.Event{Type: 77}, api.ErrArg)
		if none.Alive() != 0 || none.Cells() != 0 || len(none.Close()) != 0 {
			t.Error("nil answers something")
		}
	}
	m := &step.Machine{}
	if len(m.Close()) > 0 || state(m) != "0 0" {
		t.Error("a machine of nothing has something")
	}
	wantRefused(t, "closed", m, one(t, "A 0"), api.ErrArg)
	wantRefused(t, "by no schema", &step.Machine{}, one(t, "A 0"), api.ErrEvent)
}

// P1: all calls end, and none panics, whatever they are given.
func TestAnything(t *testing.T) {
	o := sample.Odd{Pick: rand.New(rand.NewPCG(15, 7)).IntN}
	m := &sample.Maker{Pick: o.Pick}
	good, told := 0, 0
	for range 60000 {
		a, l := o.Auto(), m.Script(8)
		if len(l) > 0 && o.Pick(4) == 0 {
			l[o.Pick(len(l))] = api.Event{Type: o.Number(), Time: int64(o.Number())}
		}
		found, _, err := step.Run(sample.Shop(), a, l)
		if auto.Good(a) != (err != api.ErrForm) {
			t.Fatalf("Run of %+v: %d", a, err)
		}
		told += len(found)
		if x, err := step.New(sample.Shop(), a); err == api.OK {
			good++
			for _, e := range l {
				x.Push(e)
				x.Alive()
				x.Cells()
			}
			x.Close()
		}
	}
	if good < 1000 || told < 1000 {
		t.Errorf("%d are Good, there are %d matches", good, told)
	}
}

// P1: conditions that go round, share, or are deep.
func TestOddConditions(t *testing.T) {
	yes := constant(sample.Bool(1))
	for _, c := range []struct {
		n    api.Node
		told string
	}{
		{sample.Circle(api.OpAnd, 1), ""},
		{sample.Circle(api.OpNot, 3), ""},
		{sample.Circle(api.Const, 2), ""},
		{sample.Shared(api.OpAnd, 300, yes), "0 0: 0|1 0: 0 1|1 0: 1|2 1: 0; 2|2 1: 0 1; 2|2 1: 1; 2"},
		{sample.Shared(api.OpAnd, 24, yes), "0 0: 0|1 0: 0 1|1 0: 1|2 1: 0; 2|2 1: 0 1; 2|2 1: 1; 2"},
		{sample.Far(api.OpNot, 100000, yes), "0 0: 0|1 0: 0 1|1 0: 1|2 1: 0; 2|2 1: 0 1; 2|2 1: 1; 2"},
	} {
		l := []api.Node{c.n, c.n}
		a := api.Auto{Strategy: api.Any, States: []api.State{
			{Parent: -1, Many: true, Window: 9, Guards: l, Ends: []api.End{{Closes: l}}},
			{Parent: 0, Type: 1, Window: 9, Bars: []api.Bar{{Type: 1, Guards: l}}, Leaves: l, Guards: l, Ends: []api.End{{Branch: 1, Closes: l}, {Branch: 2, Bars: []api.Bar{{Type: 2, Guards: l}}}}},
		}}
		found, at, err := step.Run(sample.Shop(), a, sample.Events("A 0|A 0|B 0|C 0"))
		if got := sample.Lines(found); at != 0 || err != api.OK || got != c.told {
			t.Errorf("%s, %d at %d; wanted %s", got, err, at, c.told)
		}
	}
}
