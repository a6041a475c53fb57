package merge_test

import (
	"math/rand/v2"
	"testing"

	"auspice/api"
	"auspice/auto"
	"auspice/merge"
	"auspice/model"
	"auspice/rules"
	"auspice/sample"
	"auspice/step"
)

// wantRun holds what Run answers of a merged automaton against what it answers of the other one. What is told, and the error.
func wantRun(t *testing.T, s api.Schema, a, merged api.Auto, script []api.Event) ([]api.Match, api.Errno) {
	t.Helper()
	wanted, wantedAt, wantedErr := step.Run(s, a, script)
	got, at, err := step.Run(s, merged, script)
	if sample.Lines(got) != sample.Lines(wanted) || at != wantedAt || err != wantedErr {
		t.Fatalf("%+v\nover %v: %s, %d at %d; wanted %s, %d at %d", a, script, sample.Lines(got), err, at, sample.Lines(wanted), wantedErr, wantedAt)
	}
	return got, err
}

// P16.3: Run is the same, be scripts valid or not, under each strategy.
func TestRun(t *testing.T) {
	m := &sample.Maker{Pick: rand.New(rand.NewPCG(16, 3)).IntN}
	found, faults := map[int]int{}, map[api.Errno]int{}
	for range 30000 {
		a, l := twins(m, false), m.Script(9)
		merged := merge.Merge(a)
		for range m.Pick(4) / 3 * min(1, len(l)) {
			e := &l[m.Pick(len(l))]
			e.Time += int64(m.Pick(5) - 2)
			e.Type += m.Pick(2)
		}
		told, err := wantRun(t, sample.Shop(), a, merged, l)
		faults[err]++
		if len(merged.States) < len(a.States) {
			found[a.Strategy] += len(told)
		}
		if m.Pick(50) == 0 {
			wantRun(t, api.Schema{}, a, merged, l)
			wantRun(t, api.Schema{Types: make([]api.Type, 2)}, a, merged, l)
		}
	}
	if found[api.Strict] < 5000 || found[api.Next] < 5000 || found[api.Any] < 5000 || faults[api.ErrEvent] < 500 || faults[api.ErrTime] < 500 {
		t.Errorf("there are %v matches, and %v", found, faults)
	}
}

// machine runs an automaton that is Good.
func machine(t *testing.T, a api.Auto) *step.Machine {
	t.Helper()
	m, err := step.New(sample.Shop(), a)
	if err != api.OK {
		t.Fatalf("New: %d", err)
	}
	return m
}

// P16.3: event by event what is told is the same, no more is alive, of just as many Cells.
func TestAlive(t *testing.T) {
	m := &sample.Maker{Pick: rand.New(rand.NewPCG(16, 4)).IntN}
	fewer, cells := map[int]int{}, 0
	for range 30000 {
		a, l := twins(m, false), m.Script(9)
		x, y := machine(t, a), machine(t, merge.Merge(a))
		for at, e := range l {
			wanted, _ := x.Push(e)
			got, err := y.Push(e)
			if err != api.OK || sample.Lines(got) != sample.Lines(wanted) {
				t.Fatalf("%+v\nover %v, at %d: %s, %d, wanted %s", a, l, at, sample.Lines(got), err, sample.Lines(wanted))
			}
			if y.Alive() > x.Alive() || y.Cells() != x.Cells() {
				t.Fatalf("%+v\nover %v, at %d: %d alive, %d cells; ahead %d, %d", a, l, at, y.Alive(), y.Cells(), x.Alive(), x.Cells())
			}
			if y.Alive() < x.Alive() {
				fewer[a.Strategy]++
			}
			cells += y.Cells()
		}
		if got, wanted := sample.Lines(y.Close()), sample.Lines(x.Close()); got != wanted {
			t.Fatalf("%+v\nover %v, closed: %s, wanted %s", a, l, got, wanted)
		}
	}
	if fewer[api.Strict] < 1000 || fewer[api.Next] < 1000 || fewer[api.Any] < 1000 || cells < 50000 {
		t.Errorf("fewer are alive %v times, there are %d cells", fewer, cells)
	}
}

// P16.3, the chapter's example: an event closes the one child of a run, not the other one.
func TestOneChildClosed(t *testing.T) {
	event := func(typ int) api.Event {
		e := api.Event{Type: typ}
		if typ < 2 {
			e.Attrs = []api.Value{sample.Sym(0), sample.Int(0), sample.Real(0), sample.Bool(0)}
		}
		return e
	}
	for _, c := range []struct {
		strategy string
		told     string
		alive    [4]int
	}{
		{"STRICT", "1 0: 0; 1", [4]int{1, 0, 0, 0}},
		{"NEXT", "1 0: 0; 1|3 1: 0; 3", [4]int{1, 1, 1, 0}},
		{"ANY", "1 0: 0; 1|2 0: 0; 2|3 1: 0; 3", [4]int{1, 1, 1, 1}},
	} {
		merged := merge.Merge(built(t, made(t, "PATTERN SEQ(A a, B b) | SEQ(A c, C d) STRATEGY "+c.strategy+" WITHIN 9")))
		m, all := machine(t, merged), []api.Match{}
		for i, typ := range []int{0, 1, 1, 2} {
			l, err := m.Push(event(typ))
			if all = append(all, l...); err != api.OK || m.Alive() != c.alive[i] {
				t.Errorf("%s, at %d: %d alive, %d", c.strategy, i, m.Alive(), err)
			}
		}
		if sample.Lines(all) != c.told {
			t.Errorf("%s: %s, wanted %s", c.strategy, sample.Lines(all), c.told)
		}
	}
}

// P16.3: of queries of all sorts, as they are and rewritten, what is told is what layer 11 says.
func TestModel(t *testing.T) {
	m := &sample.Maker{Pick: rand.New(rand.NewPCG(16, 5)).IntN}
	found := map[int]int{}
	for i := range 20000 {
		text := alikeQuery(m)
		if i%4 == 0 {
			text = m.Query()
		}
		p, ok := sample.Planned(text)
		if !ok {
			continue
		}
		script := m.Script(9)
		wanted, _, _ := model.Matches(sample.Shop(), p, script)
		for _, a := range []api.Auto{built(t, p), built(t, rules.Apply(p))} {
			merged := merge.Merge(a)
			got, _, err := step.Run(sample.Shop(), merged, script)
			if err != api.OK || sample.Lines(got) != sample.Lines(wanted) {
				t.Fatalf("%s over %v: %s, %d; wanted %s", text, script, sample.Lines(got), err, sample.Lines(wanted))
			}
			if len(merged.States) < len(a.States) {
				found[a.Strategy] += len(got)
			}
		}
	}
	if found[api.Strict] < 2000 || found[api.Next] < 2000 || found[api.Any] < 2000 {
		t.Errorf("there are %v matches", found)
	}
}

// P16.3: of trees of states the merged one is of the same branches.
func TestModelOfTrees(t *testing.T) {
	m := &sample.Maker{Pick: rand.New(rand.NewPCG(16, 6)).IntN}
	for range 10000 {
		a, script := twins(m, true), m.Script(8)
		wanted, _, _ := model.Matches(sample.Shop(), auto.Plan(a), script)
		got, _, err := step.Run(sample.Shop(), merge.Merge(a), script)
		if err != api.OK || sample.Lines(got) != sample.Lines(wanted) {
			t.Fatalf("%+v\nover %v: %s, %d; wanted %s", a, script, sample.Lines(got), err, sample.Lines(wanted))
		}
	}
}
