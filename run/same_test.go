package run_test

import (
	"math/rand/v2"
	"testing"

	"auspice/api"
	"auspice/sample"
	"auspice/step"
)

// most are the most runs and waits, and the most cells, that are alive behind an event of a script.
func most(t *testing.T, a api.Auto, script []api.Event) (runs, cells int) {
	t.Helper()
	m, err := step.New(sample.Shop(), a)
	if err != api.OK {
		t.Fatalf("no machine: %d", err)
	}
	for _, e := range script {
		m.Push(e)
		runs, cells = max(runs, m.Alive()), max(cells, m.Cells())
	}
	return max(1, runs), max(1, cells)
}

// counted are matches and errors.
type counted struct {
	told map[int]int // by the strategy
	errs map[api.Errno]int
}

// wantAll holds runs with room for all, with as much as is needed, and with less, against layer 15's.
func (n counted) wantAll(t *testing.T, pick func(n int) int, what string, a api.Auto, x api.Table, script []api.Event) {
	t.Helper()
	wanted := func() {
		t.Helper()
		told, err := wantMachine(t, what, a, x, script)
		n.told[a.Strategy] += told
		n.errs[err]++
	}
	wanted()
	runs, cells := most(t, a, script)
	x.Runs, x.Cells = runs, cells
	wanted()
	if runs > 1 {
		x.Runs = runs - 1
		wanted()
	}
	if cells > 1 {
		x.Runs, x.Cells = runs, cells-1
		wanted()
	}
	x.Runs, x.Cells = 1+pick(runs), 1+pick(cells)
	wanted()
}

func (n counted) want(t *testing.T, least int) {
	t.Helper()
	for _, strategy := range []int{api.Strict, api.Next, api.Any} {
		if n.told[strategy] < least {
			t.Errorf("there are %v matches", n.told)
		}
	}
	for _, err := range []api.Errno{api.OK, api.ErrEvent, api.ErrTime, api.ErrRuns, api.ErrCells} {
		if n.errs[err] < least/4 {
			t.Errorf("there are %v errors", n.errs)
		}
	}
}

// faulty changes an event or two of a script, now and then.
func faulty(m *sample.Maker, l []api.Event) []api.Event {
	for range m.Pick(2) * m.Pick(2) * m.Pick(3) * min(1, len(l)) {
		e := &l[m.Pick(len(l))]
		e.Time += int64(m.Pick(5) - 2)
		e.Type += m.Pick(2) * m.Pick(2)
	}
	return l
}

// P24.2 to P24.4: queries of all sorts, of all levels, with code of all sorts, within all bounds.
func TestQueries(t *testing.T) {
	m := &sample.Maker{Pick: rand.New(rand.NewPCG(24, 1)).IntN}
	n := counted{map[int]int{}, map[api.Errno]int{}}
	for range 8000 {
		text := m.Query()
		p, ok := sample.Planned(text)
		if !ok {
			continue
		}
		a, ok := sample.Level(p, m.Pick(4))
		if !ok {
			t.Fatalf("no automaton: %s", text)
		}
		n.wantAll(t, m.Pick, text, a, tableOf(t, a, m.Pick(2) == 0, 2+m.Pick(3)), faulty(m, m.Script(10)))
	}
	n.want(t, 2000)
}

// P24.2 to P24.4: automata of all sorts: trees, with several Ends in a state, with a window for each state.
func TestAutomata(t *testing.T) {
	m := &sample.Maker{Pick: rand.New(rand.NewPCG(24, 2)).IntN}
	n := counted{map[int]int{}, map[api.Errno]int{}}
	for range 12000 {
		a := m.Fitting()
		n.wantAll(t, m.Pick, dump(a), a, tableOf(t, a, m.Pick(2) == 0, 2+m.Pick(3)), faulty(m, m.Script(10)))
	}
	n.want(t, 4000)
}
