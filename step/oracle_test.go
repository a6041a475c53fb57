package step_test

import (
	"fmt"
	"math/rand/v2"
	"slices"
	"testing"

	"auspice/api"
	"auspice/eval"
	"auspice/match"
	"auspice/sample"
	"auspice/value"
)

// literal does what the chapter says, word by word, with the whole script at hand.
type literal struct {
	a      api.Auto
	script []api.Event
	runs   []*literalRun
	waits  []*literalWait
}

type literalRun struct {
	state          int
	bound          [][]int
	closed, barred map[int]bool
}

type literalWait struct {
	state int
	end   api.End
	bound [][]int
}

func (o *literal) state(i int) api.State { return o.a.States[i] }

func (o *literal) isChild(child, of int) bool { return o.state(child).Parent == of }

func (o *literal) key(place int) (api.Value, bool) {
	e := o.script[place]
	if len(o.a.Keys) == 0 {
		return api.Value{}, true
	}
	if e.Type >= len(o.a.Keys) || o.a.Keys[e.Type] < 0 || o.a.Keys[e.Type] >= len(e.Attrs) {
		return api.Value{}, false
	}
	return e.Attrs[o.a.Keys[e.Type]], true
}

func (o *literal) inStream(bound [][]int, n int) bool {
	a, _ := o.key(bound[0][0])
	b, ok := o.key(n)
	return ok && value.Same(a, b)
}

func (o *literal) over(state int, bound [][]int, n int) bool {
	return o.script[bound[0][0]].Time+o.state(state).Window < o.script[n].Time
}

func (o *literal) hold(l []api.Node, bound [][]int, cur int) bool {
	return eval.All(l, eval.Look{Events: o.script, Bound: bound, Cur: cur})
}

func (o *literal) isBarred(bars []api.Bar, bound [][]int, n int) bool {
	for _, bar := range bars {
		if o.script[n].Type == bar.Type && o.hold(bar.Guards, bound, n) {
			return true
		}
	}
	return false
}

func longer(bound [][]int, n int) [][]int {
	bound = slices.Clone(bound)
	last := len(bound) - 1
	bound[last] = append(slices.Clone(bound[last]), n)
	return bound
}

func further(bound [][]int, n int) [][]int {
	return append(slices.Clone(bound), []int{n})
}

func (o *literal) push(e api.Event) []api.Match {
	n := len(o.script)
	o.script = append(o.script, e)
	told := []api.Match{}
	// 1.
	for _, w := range o.waits {
		if o.over(w.state, w.bound, n) {
			told = append(told, api.Match{Step: n, Branch: w.end.Branch, Parts: w.bound})
		}
	}
	o.runs = slices.DeleteFunc(o.runs, func(r *literalRun) bool { return o.over(r.state, r.bound, n) })
	o.waits = slices.DeleteFunc(o.waits, func(w *literalWait) bool { return o.over(w.state, w.bound, n) })
	// 2.
	came := []*literalRun{}
	o.runs = slices.DeleteFunc(o.runs, func(r *literalRun) bool {
		if !o.inStream(r.bound, n) {
			return false
		}
		news, stays := o.take(r, n)
		came = append(came, news...)
		return !stays
	})
	// 3.
	o.waits = slices.DeleteFunc(o.waits, func(w *literalWait) bool {
		return o.inStream(w.bound, n) && o.isBarred(w.end.Bars, w.bound, n)
	})
	// 4.
	if _, ok := o.key(n); ok {
		for i, s := range o.a.States {
			if s.Parent == -1 && e.Type == s.Type && o.hold(s.Guards, nil, n) {
				came = append(came, &literalRun{i, [][]int{{n}}, map[int]bool{}, map[int]bool{}})
			}
		}
	}
	// 5.
	for _, r := range came {
		for _, end := range o.state(r.state).Ends {
			switch {
			case !o.hold(end.Closes, r.bound, -1):
			case len(end.Bars) == 0:
				told = append(told, api.Match{Step: n, Branch: end.Branch, Parts: r.bound})
			default:
				o.waits = append(o.waits, &literalWait{r.state, end, r.bound})
			}
		}
	}
	// 6.
	o.runs = slices.DeleteFunc(append(o.runs, came...), func(r *literalRun) bool { return !o.canGoOn(r) })
	return match.Sort(told)
}

// take is the second step for one run: those that come of it, and whether it stays.
func (o *literal) take(r *literalRun, n int) ([]*literalRun, bool) {
	s, typ := o.state(r.state), o.script[n].Type
	came, takers, more := []*literalRun{}, []int{}, false
	for i, child := range o.a.States {
		if o.isChild(i, r.state) && !r.closed[i] && !r.barred[i] && typ == child.Type && o.hold(child.Leaves, r.bound, -1) && o.hold(child.Guards, r.bound, n) {
			takers = append(takers, i)
			came = append(came, &literalRun{i, further(r.bound, n), map[int]bool{}, map[int]bool{}})
		}
	}
	if s.Many && typ == s.Type && o.hold(s.Guards, r.bound, n) {
		more = true
		same := map[int]bool{}
		for i := range r.closed {
			same[i] = true
		}
		came = append(came, &literalRun{r.state, longer(r.bound, n), same, map[int]bool{}})
	}
	if o.a.Strategy == api.Strict || o.a.Strategy == api.Next && more {
		return came, false
	}
	if o.a.Strategy == api.Next {
		for _, i := range takers {
			r.closed[i] = true
		}
	}
	for i, child := range o.a.States {
		if o.isChild(i, r.state) && o.isBarred(child.Bars, r.bound, n) {
			r.barred[i] = true
		}
	}
	return came, true
}

func (o *literal) canGoOn(r *literalRun) bool {
	s, anyNotClosed, anyOpen := o.state(r.state), false, false
	for i := range o.a.States {
		if o.isChild(i, r.state) && !r.closed[i] {
			anyNotClosed = true
			anyOpen = anyOpen || !r.barred[i]
		}
	}
	return s.Many && (len(s.Ends) > 0 || anyNotClosed) || anyOpen
}

func (o *literal) close() []api.Match {
	told := []api.Match{}
	for _, w := range o.waits {
		told = append(told, api.Match{Step: len(o.script), Branch: w.end.Branch, Parts: w.bound})
	}
	return match.Sort(told)
}

// alive is what Alive and Cells are.
func (o *literal) alive() string {
	bounds := [][][]int{}
	for _, r := range o.runs {
		bounds = append(bounds, r.bound)
	}
	for _, w := range o.waits {
		bounds = append(bounds, w.bound)
	}
	cells := map[string]bool{}
	for _, bound := range bounds {
		begun := [][]int{}
		for _, places := range bound {
			begun = append(begun, nil)
			for _, place := range places {
				begun[len(begun)-1] = append(begun[len(begun)-1], place)
				cells[fmt.Sprint(begun)] = true
			}
		}
	}
	return fmt.Sprintf("%d %d", len(o.runs)+len(o.waits), len(cells))
}

// P15.2, P15.3: Good automata of all sorts, event by event, against the chapter's words.
func TestRandomAutomata(t *testing.T) {
	m := &sample.Maker{Pick: rand.New(rand.NewPCG(15, 1)).IntN}
	told := map[int]int{}
	waited, closed := 0, 0
	for range 60000 {
		a, l := m.Auto(false), m.Script(10)
		o, x := &literal{a: a}, machine(t, a)
		for i, e := range l {
			wanted := o.push(e)
			if got := pushed(t, x, e); got != sample.Lines(wanted) || state(x) != o.alive() {
				t.Fatalf("%+v\nover %v, at %d: %s, alive %s; wanted %s, %s", a, l, i, got, state(x), sample.Lines(wanted), o.alive())
			}
			told[a.Strategy] += len(wanted)
		}
		waited += len(o.waits)
		for _, r := range o.runs {
			closed += len(r.closed)
		}
		if got, wanted := sample.Lines(x.Close()), sample.Lines(o.close()); got != wanted || state(x) != "0 0" {
			t.Fatalf("%+v\nover %v, closed: %s, alive %s; wanted %s", a, l, got, state(x), wanted)
		}
	}
	if told[api.Strict] < 5000 || told[api.Next] < 5000 || told[api.Any] < 5000 || waited < 5000 || closed < 1000 {
		t.Errorf("there are %v matches, %d waits, %d children closed", told, waited, closed)
	}
}
