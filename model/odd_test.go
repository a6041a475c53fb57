package model_test

import (
	"fmt"
	"math/rand/v2"
	"slices"
	"testing"

	"auspice/api"
	"auspice/match"
	"auspice/model"
	"auspice/sample"
)

// odd makes scripts and bindings with anything in them, beside plans.
type odd struct {
	sample.Odd
}

// script is one of events that needn't be valid, nor in order.
func (o odd) script() []api.Event {
	l := []api.Event{}
	for range o.Pick(6) {
		e := api.Event{Type: o.Number(), Time: int64(o.Number())}
		for range o.Pick(3) {
			e.Attrs = append(e.Attrs, api.Value{Kind: o.Number(), Bits: uint64(o.Number())})
		}
		l = append(l, e)
	}
	return l
}

func (o odd) bound() [][]int {
	l := [][]int{}
	for range o.Pick(4) {
		places := []int{}
		for range o.Pick(3) {
			places = append(places, o.Number())
		}
		l = append(l, places)
	}
	return l
}

// P1: all calls end, and none panics, whatever they are given.
func TestAnything(t *testing.T) {
	o, schema := odd{sample.Odd{Pick: rand.New(rand.NewPCG(11, 2)).IntN}}, market()
	for i := range 4 {
		schema.Types[i].Fields = nil // so that more scripts are valid
	}
	begun := 0
	for range 60000 {
		p, l := o.Plan(), o.script()
		model.Stream(p.Keys, l, o.Number())
		model.Over(l, o.Number(), int64(o.Number()))
		for _, bound := range [][][]int{o.bound(), {{0}}, {{0}, {1}}, {{0, 1}, {2}}} {
			if model.Begins(p, o.Number(), l, bound) {
				begun++
			}
		}
		model.Matches(schema, p, l)
		for i := range l {
			l[i].Type, l[i].Time, l[i].Attrs = max(0, l[i].Type%4), int64(i/2), nil
		}
		found, at, err := model.Matches(schema, p, l)
		if at != 0 || err != api.OK || !slices.IsSortedFunc(found, match.Order) {
			t.Fatalf("Matches of %v, %v: %v, %d at %d", p, l, found, err, at)
		}
	}
	if begun < 100 {
		t.Errorf("there are %d beginnings", begun)
	}
}

// P1: a plan without parts, of Nots alone, with Nots ahead of all else.
func TestOddBranches(t *testing.T) {
	not, one := api.Part{Form: api.Not, Type: 4}, api.Part{Form: api.One, Type: 4}
	for _, parts := range [][]api.Part{nil, {}, {not}, {not, not}} {
		p := api.Plan{Strategy: api.Any, Branches: []api.Branch{{Window: 9, Parts: parts}}}
		if got := told(t, p, row(3)); got != "" {
			t.Errorf("%d Nots and nothing else: %s", len(parts), got)
		}
		for _, bound := range [][][]int{nil, {}, {{}}, {{0}}, {{0}, {1}}} {
			if model.Begins(p, 0, row(3), bound) {
				t.Errorf("%d Nots and nothing else: %v is a beginning", len(parts), bound)
			}
		}
	}
	p := api.Plan{Strategy: api.Any, Branches: []api.Branch{{Window: 9, Parts: []api.Part{not, one, one}}}}
	told(t, p, row(3))
}

// P1: conditions that go round, share, or are deep.
func TestOddConditions(t *testing.T) {
	circle := []api.Node{{Op: api.OpAnd}, {Op: api.OpNot}}
	circle[0].Args, circle[1].Args = circle, circle
	shared := api.Node{Op: api.Const, Value: sample.Bool(1)}
	for range 300 {
		shared = api.Node{Op: api.OpAnd, Args: []api.Node{shared, shared}}
	}
	deep := api.Node{Op: api.Const, Value: sample.Bool(1)}
	for range 100000 {
		deep = api.Node{Op: api.OpNot, Args: []api.Node{deep}}
	}
	for wanted, l := range map[string][]api.Node{"": circle, "1 0: 0; 1": {shared, deep}} {
		p := made(t, "PATTERN SEQ(Bell+ a, !Buy b, Bell c) STRATEGY STRICT WITHIN 9")
		for i := range p.Branches[0].Parts {
			p.Branches[0].Parts[i].Guards, p.Branches[0].Parts[i].Closes = l, l
		}
		if got := told(t, p, row(2)); got != wanted {
			t.Errorf("%s, wanted %s", got, wanted)
		}
		if got := model.Begins(p, 0, row(2), [][]int{{0}, {1}}); got != (wanted != "") {
			t.Errorf("Begins: %v", got)
		}
	}
}

const busy = "PATTERN SEQ(Buy a, !Tick b, Sell+ c, Bell d) | SEQ(Buy e, Sell+ f, !Bell g) WHERE b.p > 1.0 AND c.n > a.n AND COUNT(c) > 0 STRATEGY ANY WITHIN 5"

const crowd = "Buy 0 'ann 1|Tick 0 1|Sell 1 'ann 2|Sell 2 'bob 3|Sell 3 'ann 4|Bell 3|Bell 4|Sell 4 'ann 5|Buy 5 'ann 1|Sell 6 'ann 9|Bell 7"

// The rule on memory: what is handed in isn't changed, spare room included.
func TestArgumentsStay(t *testing.T) {
	s, p, l := market(), made(t, busy), script(t, crowd)
	spare := append(slices.Clone(l), api.Event{Type: 7, Time: 7})
	places := []int{2, 3, 4, 99}
	first := []int{0, 99}
	bound := [][]int{first[:1], places[:2], {5}, {98}}
	keys := []int{0, 0, -1, -1, -1, 97}
	p.Keys = keys[:5]
	dump := func() string {
		return fmt.Sprint(s, p, spare, first, places, bound, keys)
	}
	before := dump()
	for range 2 {
		told(t, p, spare[:len(l)])
		for n := range bound {
			model.Begins(p, 0, spare[:len(l)], bound[:n])
			model.Begins(p, 1, spare[:len(l)], bound[:n])
		}
		model.Stream(keys[:5], spare[:len(l)], 2)
		model.Over(spare[:len(l)], 2, 3)
	}
	if dump() != before {
		t.Errorf("arguments are changed: %s, before %s", dump(), before)
	}
}

// The rule on memory: an answer is new, and none of its lists shares with another, spare room included.
func TestAnswersAreNew(t *testing.T) {
	s, p, l := market(), made(t, busy), script(t, crowd)
	wanted := told(t, p, l)
	a, _, _ := model.Matches(s, p, l)
	b, _, _ := model.Matches(s, p, l)
	if sample.Lines(a) != wanted || len(a) < 20 {
		t.Fatalf("%d matches: %s", len(a), sample.Lines(a))
	}
	mark := 1000
	for i := range a {
		parts := a[i].Parts[:cap(a[i].Parts)]
		for j := range parts[:len(a[i].Parts)] {
			all := parts[j][:cap(parts[j])]
			for k := range all {
				mark++
				all[k] = mark
			}
		}
		clear(parts[len(a[i].Parts):])
	}
	last := 1000
	for _, m := range a {
		for _, places := range m.Parts {
			for _, place := range places[:cap(places)] {
				if last++; place != last {
					t.Fatal("two lists of an answer share memory")
				}
			}
		}
	}
	if sample.Lines(b) != wanted || told(t, p, l) != wanted {
		t.Error("two answers share memory")
	}
	x, y := model.Stream(nil, l, 0), model.Stream(nil, l, 0)
	clear(x[:cap(x)])
	wantStream(t, nil, l, 0, y...)
	if y[len(y)-1] != len(l)-1 {
		t.Error("two streams share memory")
	}
}

// What a call answers hangs on its arguments alone.
func TestAgain(t *testing.T) {
	p, l := made(t, busy), script(t, crowd)
	wanted := told(t, p, l)
	for range 20 {
		told(t, made(t, "PATTERN SEQ(Sell+ a) STRATEGY ANY WITHIN 9"), l)
		if got := told(t, p, l); got != wanted {
			t.Fatalf("%s, ahead of it %s", got, wanted)
		}
	}
}
