package step_test

import (
	"fmt"
	"testing"

	"auspice/api"
	"auspice/auto"
	"auspice/sample"
	"auspice/step"
)

func built(t *testing.T, p api.Plan) api.Auto {
	t.Helper()
	a, err := auto.Build(p)
	if err != api.OK {
		t.Fatalf("no automaton: %d", err)
	}
	return a
}

// made is the automaton of a query by Shop.
func made(t *testing.T, text string) api.Auto {
	t.Helper()
	p, ok := sample.Planned(text)
	if !ok {
		t.Fatalf("too long: %s", text)
	}
	return built(t, p)
}

func machine(t *testing.T, a api.Auto) *step.Machine {
	t.Helper()
	m, err := step.New(sample.Shop(), a)
	if m == nil || err != api.OK {
		t.Fatalf("New: %d", err)
	}
	return m
}

func one(t *testing.T, line string) api.Event {
	t.Helper()
	return sample.Events(line)[0]
}

// pushed pushes an event that is without a fault.
func pushed(t *testing.T, m *step.Machine, e api.Event) string {
	t.Helper()
	l, err := m.Push(e)
	if err != api.OK {
		t.Fatalf("Push(%v): %d", e, err)
	}
	return sample.Lines(l)
}

// state is what is alive, and of how many cells.
func state(m *step.Machine) string {
	return fmt.Sprintf("%d %d", m.Alive(), m.Cells())
}

// dump is all that a thing has, lists written out, empty ones alike.
func dump(x any) string {
	return fmt.Sprintf("%+v", x)
}
