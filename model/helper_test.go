package model_test

import (
	"fmt"
	"math"
	"slices"
	"strings"
	"testing"

	"auspice/api"
	"auspice/event"
	"auspice/model"
	"auspice/plan"
	"auspice/query"
	"auspice/real"
	"auspice/sample"
)

// market is the schema of the document's examples, and two types more: one whose n is another kind than the others', one without any attribute.
func market() api.Schema {
	deal := []api.Field{{Name: "who", Kind: api.Sym}, {Name: "n", Kind: api.Int}}
	return api.Schema{
		Types: []api.Type{
			{Name: "Buy", Fields: deal},
			{Name: "Sell", Fields: deal},
			{Name: "Tick", Fields: []api.Field{{Name: "p", Kind: api.Real}}},
			{Name: "Rate", Fields: []api.Field{{Name: "n", Kind: api.Real}, {Name: "who", Kind: api.Sym}}},
			{Name: "Bell"},
		},
		Syms: []string{"ann", "bob"},
	}
}

// made is the plan of a query by market.
func made(t *testing.T, text string) api.Plan {
	t.Helper()
	q, at, err := query.Parse(text)
	if err != api.OK {
		t.Fatalf("no query: %q: %d at %d", text, err, at)
	}
	p, at, err := plan.Make(market(), q)
	if err != api.OK {
		t.Fatalf("no plan: %q: %d at %d", text, err, at)
	}
	return p
}

// script is of events of market, a line each; a Tick's number may be written as %v has it.
func script(t *testing.T, lines string) []api.Event {
	t.Helper()
	l := []api.Event{}
	for line := range strings.SplitSeq(lines, "|") {
		line = strings.TrimSpace(line)
		var time int64
		var price float64
		if n, _ := fmt.Sscanf(line, "Tick %d %g", &time, &price); n == 2 {
			line = fmt.Sprintf("Tick %d %s", time, real.Text(math.Float64bits(price)))
		}
		if line == "" {
			continue
		}
		e, ok := event.Parse(market(), line)
		if !ok {
			t.Fatalf("no event: %q", line)
		}
		l = append(l, e)
	}
	return l
}

// bells are Bells at these times.
func bells(times ...int64) []api.Event {
	l := []api.Event{}
	for _, time := range times {
		l = append(l, api.Event{Type: 4, Time: time})
	}
	return l
}

// told are the lines of a plan's matches, a stroke between each two.
func told(t *testing.T, p api.Plan, l []api.Event) string {
	t.Helper()
	found, at, err := model.Matches(market(), p, l)
	if at != 0 || err != api.OK {
		t.Fatalf("Matches: %d at %d", err, at)
	}
	return sample.Lines(found)
}

// bindings are all with at most so many positions, of so many events, whatever is asked of them.
func bindings(positions, events int) [][][]int {
	all := [][][]int{}
	var grow func(bound [][]int, from int)
	grow = func(bound [][]int, from int) {
		for place := from; place < events; place++ {
			if last := len(bound) - 1; last >= 0 {
				more := slices.Clone(bound)
				more[last] = append(slices.Clone(more[last]), place)
				all = append(all, more)
				grow(more, place+1)
			}
			if len(bound) < positions {
				next := append(slices.Clone(bound), []int{place})
				all = append(all, next)
				grow(next, place+1)
			}
		}
	}
	grow(nil, 0)
	return all
}
