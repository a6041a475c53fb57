package step_test

import (
	"math/rand/v2"
	"runtime"
	"slices"
	"testing"

	"auspice/api"
	"auspice/sample"
	"auspice/step"
)

// roomy is a copy of a list with room behind it that isn't empty.
func roomy[T any](l []T, fill T) []T {
	n := len(l)
	return append(slices.Clone(l), fill, fill)[:n]
}

// spoil changes all of a list, spare room included.
func spoil[T any](l []T, fill T) {
	l = l[:cap(l)]
	for i := range l {
		l[i] = fill
	}
}

func spoilNodes(l []api.Node) {
	for _, n := range l {
		spoilNodes(n.Args)
	}
	spoil(l, api.Node{Op: api.Const})
}

func spoilBars(l []api.Bar) {
	for _, bar := range l {
		spoilNodes(bar.Guards)
	}
	spoil(l, api.Bar{})
}

func spoilAuto(a api.Auto) {
	for _, s := range a.States {
		spoilBars(s.Bars)
		spoilNodes(s.Leaves)
		spoilNodes(s.Guards)
		for _, end := range s.Ends {
			spoilNodes(end.Closes)
			spoilBars(end.Bars)
		}
		spoil(s.Ends, api.End{Branch: 99})
	}
	spoil(a.States, api.State{})
	spoil(a.Keys, -1)
}

func spoilSchema(s api.Schema) {
	for _, t := range s.Types {
		spoil(t.Fields, api.Field{})
	}
	spoil(s.Types, api.Type{})
	spoil(s.Syms, "")
}

func spoilMatches(l []api.Match) {
	for _, m := range l {
		for _, places := range m.Parts {
			spoil(places, 99)
		}
		spoil(m.Parts, nil)
	}
	spoil(l, api.Match{})
}

// The rule on memory: nothing that is handed in is kept, nothing that is answered is shared: all of it may be spoilt behind each call.
func TestNothingIsKept(t *testing.T) {
	m := &sample.Maker{Pick: rand.New(rand.NewPCG(15, 8)).IntN}
	for range 10000 {
		a, l, s := m.Auto(false), m.Script(10), sample.Shop()
		wanted, _, _ := step.Run(s, a, l)
		text, lines := dump(a), sample.Lines(wanted)
		x, err := step.New(s, a)
		if err != api.OK {
			t.Fatalf("New: %d", err)
		}
		if dump(a) != text {
			t.Fatalf("New changes %s", text)
		}
		spoilAuto(a)
		spoilSchema(s)
		got := []string{}
		take := func(l []api.Match) {
			if len(l) > 0 {
				got = append(got, sample.Lines(l))
			}
			spoilMatches(l)
		}
		for _, e := range l {
			e.Attrs = slices.Clone(e.Attrs)
			told, err := x.Push(e)
			if err != api.OK {
				t.Fatalf("Push: %d", err)
			}
			spoil(e.Attrs, api.Value{})
			take(told)
		}
		take(x.Close())
		if all := linesOfAll(got); all != lines {
			t.Fatalf("%s over %v: %s, wanted %s", text, l, all, lines)
		}
	}
}

func linesOfAll(l []string) string {
	all := ""
	for i, lines := range l {
		if i > 0 {
			all += "|"
		}
		all += lines
	}
	return all
}

// The rule on memory: what is handed in isn't changed, spare room included.
func TestArgumentsStay(t *testing.T) {
	m := &sample.Maker{Pick: rand.New(rand.NewPCG(15, 9)).IntN}
	for range 3000 {
		a, l, s := m.Auto(false), roomy(m.Script(10), api.Event{Type: 7}), sample.Shop()
		a.States, a.Keys = roomy(a.States, api.State{Type: 7}), roomy(a.Keys, 7)
		for i := range l {
			l[i].Attrs = roomy(l[i].Attrs, sample.Int(7))
		}
		for i := range a.States {
			x := &a.States[i]
			x.Guards, x.Leaves = roomy(x.Guards, api.Node{Op: 7}), roomy(x.Leaves, api.Node{Op: 7})
			x.Bars, x.Ends = roomy(x.Bars, api.Bar{Type: 7}), roomy(x.Ends, api.End{Branch: 7})
		}
		before := rooms(s, a, l)
		found, _, _ := step.Run(s, a, l)
		step.Most(a, 3)
		if rooms(s, a, l) != before {
			t.Fatalf("Run changes %s, now %s", before, rooms(s, a, l))
		}
		lines := sample.Lines(found)
		again, _, _ := step.Run(s, a, l)
		spoilMatches(again)
		if sample.Lines(found) != lines {
			t.Fatal("two answers share memory")
		}
	}
}

// rooms is all that is handed in, spare room included.
func rooms(s api.Schema, a api.Auto, l []api.Event) string {
	text := dump(s) + dump(a.Keys[:cap(a.Keys)]) + dump(a.States[:cap(a.States)]) + dump(l[:cap(l)])
	for _, x := range a.States {
		text += dump(x.Guards[:cap(x.Guards)]) + dump(x.Leaves[:cap(x.Leaves)]) + dump(x.Bars[:cap(x.Bars)]) + dump(x.Ends[:cap(x.Ends)])
	}
	for _, e := range l {
		text += dump(e.Attrs[:cap(e.Attrs)])
	}
	return text
}

// The rule on memory: no two lists of one answer are one.
func TestListsApart(t *testing.T) {
	all, _, _ := step.Run(sample.Shop(), made(t, "PATTERN SEQ(A+ a, A+ b) | SEQ(A+ c, !B d) | SEQ(A+ e, A+ f) STRATEGY ANY WITHIN 9"), sample.Events("A 0|A 0|A 0|A 0|A 0"))
	if len(all) < 100 {
		t.Fatalf("there are %d matches", len(all))
	}
	met := map[any]bool{}
	for _, m := range all {
		parts := m.Parts[:cap(m.Parts)]
		for i := range parts {
			places := parts[i][:cap(parts[i])]
			for j := range places {
				if met[&parts[i]] || met[&places[j]] {
					t.Fatal("two lists share memory")
				}
				met[&places[j]] = true
			}
			met[&parts[i]] = true
		}
	}
}

// heap is how many bytes are held.
func heap() int64 {
	var is runtime.MemStats
	runtime.GC()
	runtime.ReadMemStats(&is)
	return int64(is.HeapAlloc)
}

// What is kept is what is alive: of events that are in no binding nothing.
func TestEventsAreLeft(t *testing.T) {
	m := machine(t, made(t, "PATTERN SEQ(A+ a, !C n, B b) WHERE a.x = 1 AND b.x = 1 AND COUNT(a) < 9 STRATEGY ANY WITHIN 1000000"))
	first := one(t, "A 0 ann 1")
	pushed(t, m, first)
	before := heap()
	for i := range 100000 {
		e := one(t, []string{"A 0", "B 0", "C 0"}[i%3])
		if got := pushed(t, m, e); got != "" || state(m) != "1 1" {
			t.Fatalf("%s, %s alive", got, state(m))
		}
	}
	if after := heap(); after > before+4<<20 {
		t.Errorf("%d bytes are kept", after-before)
	}
	runtime.KeepAlive(m)
}

// What is no more is let go, spare room included.
func TestPastIsLeft(t *testing.T) {
	a := made(t, "PATTERN SEQ(C+ a) WHERE COUNT(a) = 99 STRATEGY ANY WITHIN 5")
	for _, last := range []func(m *step.Machine){
		func(m *step.Machine) { m.Push(api.Event{Type: 2, Time: 9}) },
		func(m *step.Machine) { m.Push(api.Event{Type: 2, Time: -1}) },
		func(m *step.Machine) { m.Close() },
	} {
		m := machine(t, a)
		before := heap()
		for range 15 {
			pushed(t, m, api.Event{Type: 2})
		}
		if m.Alive() != 1<<15-1 {
			t.Fatalf("%d are alive", m.Alive())
		}
		most := heap()
		last(m)
		if after := heap(); after-before > (most-before)/2 {
			t.Errorf("%d bytes are kept of %d", after-before, most-before)
		}
		runtime.KeepAlive(m)
	}
}

// What is answered hangs on what a machine was told alone: two go side by side.
func TestTwoMachines(t *testing.T) {
	m := &sample.Maker{Pick: rand.New(rand.NewPCG(15, 10)).IntN}
	for range 2000 {
		a, b, l := m.Auto(false), m.Auto(false), m.Script(10)
		alone := []string{}
		x := machine(t, a)
		for _, e := range l {
			alone = append(alone, pushed(t, x, e)+state(x))
		}
		y, z := machine(t, a), machine(t, b)
		for i, e := range l {
			pushed(t, z, e)
			if got := pushed(t, y, e) + state(y); got != alone[i] {
				t.Fatalf("%+v over %v, at %d: %s, wanted %s", a, l, i, got, alone[i])
			}
		}
	}
}

// A run of one position that goes on for long, and what goes on beside it.
func TestLongRow(t *testing.T) {
	a := made(t, "PATTERN SEQ(C+ a, A b) WHERE (a.TIME = 0 OR COUNT(a) > 0) AND COUNT(a) > 9998 STRATEGY NEXT WITHIN 9")
	m := machine(t, a)
	for i := range 10000 {
		e := api.Event{Type: 2, Time: int64(min(i, 1))}
		if got := pushed(t, m, e); got != "" || m.Alive() != 1 {
			t.Fatalf("at %d: %s, %s alive", i, got, state(m))
		}
	}
	l, err := m.Push(one(t, "A 2"))
	if err != api.OK || len(l) != 1 || len(l[0].Parts) != 2 || len(l[0].Parts[0]) != 10000 || l[0].Parts[1][0] != 10000 || state(m) != "0 0" {
		t.Fatalf("%d matches, %d, %s alive", len(l), err, state(m))
	}
	for i, place := range l[0].Parts[0] {
		if place != i {
			t.Fatalf("the place %d at %d", place, i)
		}
	}
}
