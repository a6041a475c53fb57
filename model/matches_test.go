package model_test

import (
	"testing"

	"auspice/api"
	"auspice/model"
	"auspice/sample"
)

// found is a query, a script, and the lines of the matches that there are.
type found struct {
	text, events, wanted string
}

func wantFound(t *testing.T, rows []found) {
	t.Helper()
	for _, c := range rows {
		if got := told(t, made(t, c.text), script(t, c.events)); got != c.wanted {
			t.Errorf("%s over %s: %s, wanted %s", c.text, c.events, got, c.wanted)
		}
	}
}

// The document's examples of the whole, as far as they speak of matches.
func TestExamples(t *testing.T) {
	const deal = "PATTERN SEQ(Buy a, Sell b) STRATEGY ANY WITHIN 10"
	const deals = "Buy 0 'ann 1|Sell 3 'bob 2|Sell 11 'ann 3"
	const atOnce = "Buy 0 'ann 1|Sell 0 'ann 2|Sell 0 'ann 3"
	const quiet = "PATTERN SEQ(Buy a, !Tick t, Sell b) WHERE t.p > 1.5 STRATEGY NEXT WITHIN 10"
	const rising = "PATTERN SEQ(Tick+ t) WHERE COUNT(t) = 0 OR t.p > LAST(t.p) STRATEGY NEXT WITHIN 10"
	const unsold = "PATTERN SEQ(Buy a, !Sell s) STRATEGY ANY WITHIN 5"
	const quotient = "PATTERN SEQ(Buy a, Sell b) WHERE a.n / b.n > 1 STRATEGY ANY WITHIN 10"
	const either = "PATTERN SEQ(Buy a, Sell b) | SEQ(Buy c, Tick d) STRATEGY NEXT WITHIN 9"
	wantFound(t, []found{
		{deal, deals, "1 0: 0; 1"},
		{deal + " PARTITION BY who", deals, ""},
		{"PATTERN SEQ(Buy a, Sell+ b) STRATEGY ANY WITHIN 10", atOnce, "1 0: 0; 1|2 0: 0; 1 2|2 0: 0; 2"},
		{"PATTERN SEQ(Buy a, Sell+ b) STRATEGY STRICT WITHIN 10", atOnce, "1 0: 0; 1|2 0: 0; 1 2"},
		{quiet, "Buy 0 'ann 1|Tick 0 2|Sell 0 'ann 1", ""},
		{quiet, "Buy 0 'ann 1|Tick 0 NaN|Sell 0 'ann 1", "2 0: 0; 2"},
		{rising, "Tick 0 1|Tick 1 3|Tick 2 2|Tick 3 4|Tick 3 4", "0 0: 0|1 0: 0 1|1 0: 1|2 0: 2|3 0: 0 1 3|3 0: 1 3|3 0: 2 3|3 0: 3|4 0: 4"},
		{unsold, "Buy 0 'ann 1|Tick 6 0", "1 0: 0"},
		{unsold, "Buy 0 'ann 1", "1 0: 0"},
		{quotient, "Buy 0 'ann 9|Sell 0 'ann 0|Sell 0 'ann 4|Sell 0 'ann 5", "2 0: 0; 2"},
		{either, "Buy 0 'ann 1|Tick 1 0|Sell 2 'bob 1|Sell 3 'bob 1|Tick 9 0", "1 1: 0; 1|2 0: 0; 2"},
	})
}

// P11.3: a match is a beginning with all positions whose last one closes.
func TestMatchWhole(t *testing.T) {
	const counted = "PATTERN SEQ(Buy a, Sell+ b) WHERE COUNT(b) = 2 STRATEGY ANY WITHIN 9"
	const summed = "PATTERN SEQ(Buy+ a) WHERE SUM(a.n) > 4 AND LAST(a.n) != 3 STRATEGY ANY WITHIN 9"
	wantFound(t, []found{
		{counted, "Buy 0 'ann 1|Sell 0 'ann 2|Sell 0 'ann 3|Sell 0 'ann 4", "2 0: 0; 1 2|3 0: 0; 1 3|3 0: 0; 2 3"},
		{counted, "Buy 0 'ann 1|Sell 0 'ann 2", ""},
		{summed, "Buy 0 'ann 3|Buy 0 'ann 2|Buy 1 'ann 3|Buy 2 'ann 6", "1 0: 0 1|3 0: 0 1 2 3|3 0: 0 1 3|3 0: 0 2 3|3 0: 0 3|3 0: 1 2 3|3 0: 1 3|3 0: 2 3|3 0: 3"},
		{"PATTERN SEQ(Buy a, Sell b, Bell c) STRATEGY ANY WITHIN 9", "Buy 0 'ann 1|Sell 0 'ann 2", ""},
		{"PATTERN SEQ(Bell a) STRATEGY ANY WITHIN 0", "Bell 0|Bell 0|Bell 3", "0 0: 0|1 0: 1|2 0: 2"},
		{"PATTERN SEQ(Bell a) STRATEGY ANY WITHIN 0", "", ""},
	})
}

// P11.3: Nots behind the last position, up to the window's end.
func TestMatchNotBehind(t *testing.T) {
	const two = "PATTERN SEQ(Buy a, Sell b, !Tick c, !Bell d) WHERE c.p > 1.0 STRATEGY ANY WITHIN 5"
	const many = "PATTERN SEQ(Sell+ a, !Buy b) WHERE b.n = COUNT(a) AND COUNT(a) > 1 STRATEGY ANY WITHIN 5"
	const own = "PATTERN SEQ(Sell a, !Buy b) STRATEGY ANY WITHIN 5 PARTITION BY who"
	wantFound(t, []found{
		{two, "Buy 2 'ann 1|Sell 3 'bob 1", "2 0: 0; 1"},
		{two, "Buy 2 'ann 1|Bell 2|Tick 2 3|Sell 3 'bob 1", "4 0: 0; 3"}, // between others they forbid nothing
		{two, "Buy 2 'ann 1|Sell 3 'bob 1|Bell 7", ""},
		{two, "Buy 2 'ann 1|Sell 3 'bob 1|Bell 8", "2 0: 0; 1"}, // from the first event's Time on the window is reckoned
		{two, "Buy 2 'ann 1|Sell 3 'bob 1|Tick 7 1", "3 0: 0; 1"},
		{two, "Buy 2 'ann 1|Sell 3 'bob 1|Tick 7 1.5", ""},
		{two, "Buy 2 'ann 1|Sell 3 'bob 1|Tick 7 1|Sell 7 'ann 1|Tick 7 NaN|Tick 8 9|Bell 9", "5 0: 0; 1|5 0: 0; 3"},
		{two, "Bell 1|Buy 2 'ann 1|Sell 3 'bob 1|Bell 3|Sell 3 'ann 1", "5 0: 1; 4"},
		{many, "Sell 0 'ann 1|Sell 0 'ann 1|Sell 0 'ann 1", "3 0: 0 1|3 0: 0 1 2|3 0: 0 2|3 0: 1 2"},
		{many, "Sell 0 'ann 1|Sell 0 'ann 1|Sell 1 'ann 1|Buy 5 'ann 2|Bell 6", "4 0: 0 1 2"},
		{many, "Sell 0 'ann 1|Sell 1 'ann 1|Sell 1 'ann 1|Buy 6 'ann 2", "3 0: 0 1|3 0: 0 1 2|3 0: 0 2"},
		{own, "Sell 0 'ann 1|Sell 0 'bob 1|Buy 4 'ann 1|Bell 6", "3 0: 1"},
		{own, "Sell 0 'ann 1|Buy 4 'bob 1|Buy 6 'ann 1", "2 0: 0"},
		{"PATTERN SEQ(Sell a, !Buy b) WHERE b.n < b.n STRATEGY ANY WITHIN 5", "Sell 0 'ann 1|Buy 1 'ann 1|Bell 5", "3 0: 0"},
	})
}

// P11.3: what stands behind a Not at the end hangs on no strategy.
func TestMatchNotBehindStrategies(t *testing.T) {
	for _, strategy := range []string{"STRICT", "NEXT", "ANY"} {
		wantFound(t, []found{
			{"PATTERN SEQ(Sell a, !Buy b) STRATEGY " + strategy + " WITHIN 5", "Sell 0 'ann 1|Bell 1|Sell 2 'ann 1|Bell 6|Buy 7 'ann 1|Bell 9", "3 0: 0"},
		})
	}
}

// P11.3: the order is layer 10's; Branch is the branch's Id.
func TestMatchOrder(t *testing.T) {
	const both = "PATTERN SEQ(Buy+ a, !Bell b) | SEQ(Buy c, Buy+ d) | SEQ(Buy e) STRATEGY ANY WITHIN 2"
	p, l := made(t, both), script(t, "Buy 0 'ann 1|Buy 0 'ann 1|Buy 0 'ann 1|Tick 3 0")
	const wanted = "0 2: 0|1 1: 0; 1|1 2: 1|2 1: 0; 1 2|2 1: 0; 2|2 1: 1; 2|2 2: 2|3 0: 0|3 0: 0 1|3 0: 0 1 2|3 0: 0 2|3 0: 1|3 0: 1 2|3 0: 2"
	if got := told(t, p, l); got != wanted {
		t.Errorf("%s, wanted %s", got, wanted)
	}
	p.Branches = []api.Branch{p.Branches[2], p.Branches[0], p.Branches[1]}
	if got := told(t, p, l); got != wanted {
		t.Errorf("branches in another order: %s, wanted %s", got, wanted)
	}
	p.Branches = p.Branches[:1]
	p.Branches[0].Id = 77
	if got := told(t, p, l); got != "0 77: 0|1 77: 1|2 77: 2" {
		t.Errorf("another Id: %s", got)
	}
	p.Branches = nil
	if got := told(t, p, l); got != "" {
		t.Errorf("without a branch: %s", got)
	}
}

func wantError(t *testing.T, s api.Schema, p api.Plan, l []api.Event, wantedAt int, wanted api.Errno) {
	t.Helper()
	if m, at, err := model.Matches(s, p, l); len(m) > 0 || at != wantedAt || err != wanted {
		t.Errorf("Matches over %d events: %s, %d at %d, wanted %d at %d", len(l), sample.Lines(m), err, at, wanted, wantedAt)
	}
}

// P11.3: a script's first fault, with its place, and nothing beside it.
func TestScriptError(t *testing.T) {
	p, s := made(t, "PATTERN SEQ(Bell a) STRATEGY ANY WITHIN 9"), market()
	wantError(t, s, p, bells(5, 4), 1, api.ErrTime)
	wantError(t, s, p, bells(1, 2, 2, 1, -1), 3, api.ErrTime)
	wantError(t, s, p, bells(-1, 4), 0, api.ErrEvent)
	wantError(t, s, p, bells(0, api.MaxTime+1, 0), 1, api.ErrEvent)
	for at := range 4 {
		for _, wrong := range []api.Event{{Type: 5, Time: 1}, {Type: -1, Time: 1}, {Type: 0, Time: 1}, {Type: 2, Time: 1, Attrs: []api.Value{sample.Int(1)}}} {
			l := bells(1, 1, 1, 0)
			l[at] = wrong
			wantError(t, s, p, l, min(at, 3), api.ErrEvent)
		}
	}
	wantError(t, api.Schema{}, p, bells(0), 0, api.ErrEvent)
	s.Syms[1] = "ann"
	wantError(t, s, p, bells(0), 0, api.ErrEvent)
	wantError(t, s, p, nil, 0, api.OK)
}

// row is one event more and more often, at one time.
func row(n int) []api.Event {
	return bells(make([]int64, n)...)
}

func wantWork(t *testing.T, text string, events []api.Event, matches int, wanted api.Errno) {
	t.Helper()
	m, at, err := model.Matches(market(), made(t, text), events)
	if at != 0 || err != wanted || len(m) != matches {
		t.Errorf("%s over %d events: %d matches, %d at %d, wanted %d, %d", text, len(events), len(m), err, at, matches, wanted)
	}
}

// P11.3: just MaxWork beginnings, of all branches together, are no error, one more is.
func TestFull(t *testing.T) {
	wantWork(t, "PATTERN SEQ(Bell a) STRATEGY ANY WITHIN 0", row(api.MaxWork), api.MaxWork, api.OK)
	wantWork(t, "PATTERN SEQ(Bell a) STRATEGY ANY WITHIN 0", row(api.MaxWork+1), 0, api.ErrFull)
	const two = "PATTERN SEQ(Bell a) | SEQ(Bell b) STRATEGY STRICT WITHIN 0"
	wantWork(t, two, row(api.MaxWork/2), api.MaxWork, api.OK)
	wantWork(t, two, row(api.MaxWork/2+1), 0, api.ErrFull)
	wantWork(t, "PATTERN SEQ(Bell+ a) STRATEGY ANY WITHIN 0", row(14), 1<<14-1, api.OK)
	wantWork(t, "PATTERN SEQ(Bell+ a) STRATEGY ANY WITHIN 0", row(15), 0, api.ErrFull)
	wantWork(t, "PATTERN SEQ(Bell+ a) STRATEGY STRICT WITHIN 0", row(199), 199*200/2, api.OK)
	wantWork(t, "PATTERN SEQ(Bell+ a) STRATEGY NEXT WITHIN 0", row(200), 0, api.ErrFull)
	wantWork(t, "PATTERN SEQ(Bell+ a) | SEQ(Bell+ b) STRATEGY ANY WITHIN 0", row(14), 0, api.ErrFull)
}

// P11.3: beginnings count, be they matches or not.
func TestFullWithoutMatches(t *testing.T) {
	const never = "PATTERN SEQ(Bell a, Bell+ b) WHERE COUNT(b) < 0 STRATEGY STRICT WITHIN 9"
	const apart = "PATTERN SEQ(Bell a, Buy b) STRATEGY ANY WITHIN 9"
	spread := row(api.MaxWork + 1)
	for i := range spread {
		spread[i].Time = int64(i)
	}
	wantWork(t, apart, spread[:api.MaxWork], 0, api.OK)
	wantWork(t, apart, spread, 0, api.ErrFull)
	wantWork(t, never, row(199), 0, api.OK)
	wantWork(t, never, row(200), 0, api.ErrFull)
	wantWork(t, "PATTERN SEQ(Bell a, !Bell b) STRATEGY NEXT WITHIN 9", row(api.MaxWork), 1, api.OK)
	wantWork(t, "PATTERN SEQ(Bell a, !Bell b) STRATEGY NEXT WITHIN 9", row(api.MaxWork+1), 0, api.ErrFull)
}

// P11.3: a script's fault is told ahead of ErrFull.
func TestFullBehindFault(t *testing.T) {
	p, l := made(t, "PATTERN SEQ(Bell+ a) STRATEGY ANY WITHIN 10"), row(31)
	wantError(t, market(), p, l, 0, api.ErrFull)
	l[30].Time = -1
	wantError(t, market(), p, l, 30, api.ErrEvent)
}

// P11.3: one beginning that grows to MaxWork events.
func TestFullInOneRow(t *testing.T) {
	const grows = "PATTERN SEQ(Bell+ a) WHERE (a.TIME = 0 OR COUNT(a) > 0) AND COUNT(a) > 19998 STRATEGY STRICT WITHIN 9"
	l := row(api.MaxWork + 1)
	for i := range l[1:] {
		l[1+i].Time = 1
	}
	wantWork(t, grows, l[:api.MaxWork], 2, api.OK)
	wantWork(t, grows, l, 0, api.ErrFull)
}
