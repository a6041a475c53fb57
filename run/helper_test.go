package run_test

import (
	"fmt"
	"testing"

	"auspice/api"
	"auspice/run"
	"auspice/sample"
	"auspice/step"
)

// tableOf is an automaton, by Shop, as a table with as much room as may be.
func tableOf(t *testing.T, a api.Auto, share bool, regs int) api.Table {
	t.Helper()
	x, ok := (&sample.Coder{Share: share, Regs: regs}).Table(a)
	if !ok {
		t.Fatalf("no table: %+v", a)
	}
	return x
}

// both are a query's automaton and its table.
func both(t *testing.T, text string, level int) (api.Auto, api.Table) {
	t.Helper()
	p, ok := sample.Planned(text)
	if !ok {
		t.Fatalf("too long: %s", text)
	}
	a, ok := sample.Level(p, level)
	if !ok {
		t.Fatalf("no automaton: %s", text)
	}
	return a, tableOf(t, a, level > 1, 2+level)
}

func made(t *testing.T, text string) api.Table {
	t.Helper()
	_, x := both(t, text, 0)
	return x
}

func runner(t *testing.T, x api.Table) *run.Runner {
	t.Helper()
	r, err := run.New(x)
	if r == nil || err != api.OK {
		t.Fatalf("New: %d: %+v", err, x)
	}
	return r
}

func one(t *testing.T, line string) api.Event {
	t.Helper()
	return sample.Events(line)[0]
}

// pushed pushes an event that is without a fault.
func pushed(t *testing.T, r *run.Runner, e api.Event) string {
	t.Helper()
	l, err := r.Push(e)
	if err != api.OK {
		t.Fatalf("Push(%v): %d", e, err)
	}
	wantBad(t, r, 0, api.OK)
	return sample.Lines(l)
}

// wantRefused pushes what is answered with an error; nothing is told with it.
func wantRefused(t *testing.T, what string, r *run.Runner, e api.Event, wanted api.Errno) {
	t.Helper()
	if l, err := r.Push(e); len(l) > 0 || err != wanted {
		t.Errorf("%s: %s, %d, wanted %d", what, sample.Lines(l), err, wanted)
	}
}

func wantBad(t *testing.T, r *run.Runner, at int, wanted api.Errno) {
	t.Helper()
	if place, err := r.Bad(); place != at || err != wanted {
		t.Fatalf("Bad: %d, %d, wanted %d, %d", place, err, at, wanted)
	}
}

// state is what is alive, and of how many cells.
func state(r interface {
	Alive() int
	Cells() int
}) string {
	return fmt.Sprintf("%d %d", r.Alive(), r.Cells())
}

// dump is all that a thing has, lists written out, empty ones alike.
func dump(x any) string {
	return fmt.Sprintf("%+v", x)
}

// turn is an event; how much is alive behind it, of how many cells; and what it tells.
type turn struct {
	event, alive, told string
}

// wantTurns pushes events, and closes behind them, the last turn being that of the closing where it has no event.
func wantTurns(t *testing.T, what string, x api.Table, turns ...turn) {
	t.Helper()
	r := runner(t, x)
	if state(r) != "0 0" {
		t.Errorf("%s: at first %s alive", what, state(r))
	}
	for i, c := range turns {
		told := ""
		if c.event == "" {
			told, c.alive = sample.Lines(r.Close()), "0 0"
		} else {
			told = pushed(t, r, one(t, c.event))
		}
		if told != c.told || state(r) != c.alive {
			t.Errorf("%s: at %d, %s: %q, alive %s; wanted %q, %s", what, i, c.event, told, state(r), c.told, c.alive)
		}
	}
}

// wantQuery is wantTurns of a query's tables, of all levels.
func wantQuery(t *testing.T, text string, turns ...turn) {
	t.Helper()
	for level := range 3 {
		_, x := both(t, text, level)
		wantTurns(t, fmt.Sprintf("%s, level %d", text, level), x, turns...)
	}
	a, x := both(t, text, 3)
	l := []api.Event{}
	for _, c := range turns {
		if c.event != "" {
			l = append(l, one(t, c.event))
		}
	}
	wantMachine(t, text, a, x, l)
}

// wantLatched holds a runner that has answered an error against what it must be for ever.
func wantLatched(t *testing.T, what string, r *run.Runner, at int, err api.Errno, others ...api.Event) {
	t.Helper()
	for range 2 {
		for _, other := range append(others, api.Event{}, api.Event{Type: 77}, api.Event{Time: -1}) {
			wantBad(t, r, at, err)
			if state(r) != "0 0" {
				t.Errorf("%s: %s alive", what, state(r))
			}
			wantRefused(t, what+", behind it", r, other, err)
		}
		if l := r.Close(); len(l) > 0 {
			t.Errorf("%s: closed: %s", what, sample.Lines(l))
		}
	}
}

// excess is what more there is than may be.
func excess(m *step.Machine, x api.Table) api.Errno {
	switch {
	case m.Alive() > x.Runs:
		return api.ErrRuns
	case m.Cells() > x.Cells:
		return api.ErrCells
	}
	return api.OK
}

// wantMachine holds a table's run against layer 15's of its automaton, event by event. What it tells, and the error at last.
func wantMachine(t *testing.T, what string, a api.Auto, x api.Table, script []api.Event) (int, api.Errno) {
	t.Helper()
	m, err := step.New(sample.Shop(), a)
	if err != api.OK {
		t.Fatalf("%s: no machine: %d", what, err)
	}
	r, told := runner(t, x), 0
	for i, e := range script {
		wanted, err := m.Push(e)
		if err == api.OK {
			err = excess(m, x)
		}
		if err != api.OK {
			wantRefused(t, what, r, e, err)
			wantLatched(t, what, r, i, err, script...)
			return told, err
		}
		if got := pushed(t, r, e); got != sample.Lines(wanted) || state(r) != state(m) {
			t.Fatalf("%s over %v, at %d: %s, alive %s; wanted %s, %s", what, script, i, got, state(r), sample.Lines(wanted), state(m))
		}
		told += len(wanted)
	}
	l := r.Close()
	if wanted := sample.Lines(m.Close()); sample.Lines(l) != wanted || state(r) != "0 0" {
		t.Fatalf("%s over %v, closed: %s, alive %s; wanted %s", what, script, sample.Lines(l), state(r), wanted)
	}
	wantBad(t, r, 0, api.OK)
	return told + len(l), api.OK
}
