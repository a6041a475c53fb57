package step_test

import (
	"math/rand/v2"
	"testing"

	"auspice/api"
	"auspice/auto"
	"auspice/model"
	"auspice/rules"
	"auspice/sample"
	"auspice/step"
)

// wantModel holds an automaton's run against a plan's matches. How many there are.
func wantModel(t *testing.T, what string, a api.Auto, p api.Plan, script []api.Event) int {
	t.Helper()
	wanted, at, err := model.Matches(sample.Shop(), p, script)
	if at != 0 || err != api.OK {
		t.Fatalf("%s: Matches: %d at %d", what, err, at)
	}
	got, at, err := step.Run(sample.Shop(), a, script)
	if at != 0 || err != api.OK || sample.Lines(got) != sample.Lines(wanted) {
		t.Fatalf("%s over %v: %s, %d at %d; wanted %s", what, script, sample.Lines(got), err, at, sample.Lines(wanted))
	}
	return len(got)
}

// P15.6: queries of all sorts, as they are and rewritten.
func TestModel(t *testing.T) {
	m := &sample.Maker{Pick: rand.New(rand.NewPCG(15, 2)).IntN}
	found := map[int]int{}
	for range 20000 {
		text := m.Query()
		p, ok := sample.Planned(text)
		if !ok {
			continue
		}
		script := m.Script(10)
		found[p.Strategy] += wantModel(t, text, built(t, p), p, script)
		wantModel(t, text+", rewritten", built(t, rules.Apply(p)), p, script)
	}
	if found[api.Strict] < 2000 || found[api.Next] < 2000 || found[api.Any] < 2000 {
		t.Errorf("there are %v matches", found)
	}
}

// P15.2, P15.3: where branches begin alike, so that a state has several children, and Ends beside them, the matches are those of all branches.
func TestModelOfTrees(t *testing.T) {
	m := &sample.Maker{Pick: rand.New(rand.NewPCG(15, 3)).IntN}
	found := map[int]int{}
	for range 30000 {
		a := m.Auto(true)
		found[a.Strategy] += wantModel(t, dump(a), a, auto.Plan(a), m.Script(9))
	}
	if found[api.Strict] < 5000 || found[api.Next] < 5000 || found[api.Any] < 5000 {
		t.Errorf("there are %v matches", found)
	}
}
