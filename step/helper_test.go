package step_test

import (
	"fmt"
	"strings"
	"testing"

	"auspice/api"
	"auspice/auto"
	"auspice/event"
	"auspice/match"
	"auspice/plan"
	"auspice/query"
	"auspice/sample"
	"auspice/step"
)

// parsed is the plan of a query by Shop; false: it has none, being too long.
func parsed(t *testing.T, text string) (api.Plan, bool) {
	t.Helper()
	q, at, err := query.Parse(text)
	if err == api.ErrLong {
		return api.Plan{}, false
	}
	if err != api.OK {
		t.Fatalf("no query: %q: %d at %d", text, err, at)
	}
	p, at, err := plan.Make(sample.Shop(), q)
	if err != api.OK {
		t.Fatalf("no plan: %q: %d at %d", text, err, at)
	}
	return p, true
}

func built(t *testing.T, p api.Plan) api.Auto {
	t.Helper()
	a, err := auto.Build(p)
	if err != api.OK {
		t.Fatalf("no automaton: %d", err)
	}
	return a
}

// made is the automaton of a query by Shop.
func made(t *testing.T, text string) api.Auto {
	t.Helper()
	p, ok := parsed(t, text)
	if !ok {
		t.Fatalf("too long: %s", text)
	}
	return built(t, p)
}

func machine(t *testing.T, a api.Auto) *step.Machine {
	t.Helper()
	m, err := step.New(sample.Shop(), a)
	if m == nil || err != api.OK {
		t.Fatalf("New: %d", err)
	}
	return m
}

// script is of events of Shop, a stroke between each two: type, time, and, but of C, ann or bob and x, both perhaps left out.
func script(t *testing.T, lines string) []api.Event {
	t.Helper()
	l := []api.Event{}
	for line := range strings.SplitSeq(lines, "|") {
		if line != "" {
			l = append(l, one(t, line))
		}
	}
	return l
}

func one(t *testing.T, line string) api.Event {
	t.Helper()
	words := strings.Fields(line)
	if words[0] != "C" {
		words = append(words, []string{"ann", "0"}[min(2, len(words)-2):]...)
		words[2] = "'" + words[2]
		words = append(words, "#0000000000000000", "true")
	}
	e, ok := event.Parse(sample.Shop(), strings.Join(words, " "))
	if !ok {
		t.Fatalf("no event: %q", line)
	}
	return e
}

// linesOf are matches as lines, a stroke between each two.
func linesOf(l []api.Match) string {
	lines := []string{}
	for _, m := range l {
		lines = append(lines, match.Line(m))
	}
	return strings.Join(lines, "|")
}

// pushed pushes an event that is without a fault.
func pushed(t *testing.T, m *step.Machine, e api.Event) string {
	t.Helper()
	l, err := m.Push(e)
	if err != api.OK {
		t.Fatalf("Push(%v): %d", e, err)
	}
	return linesOf(l)
}

// state is what is alive, and of how many cells.
func state(m *step.Machine) string {
	return fmt.Sprintf("%d %d", m.Alive(), m.Cells())
}

// dump is all that a thing has, lists written out, empty ones alike.
func dump(x any) string {
	return fmt.Sprintf("%+v", x)
}
