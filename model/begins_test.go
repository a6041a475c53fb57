package model_test

import (
	"math"
	"slices"
	"testing"

	"auspice/model"
)

// asked is a query, a script, and all beginnings of its first branch in it, each positions' places between strokes.
type asked struct {
	text, events string
	wanted       [][][]int
}

// wantBegins holds all bindings there can be against those that are wanted, in any order.
func wantBegins(t *testing.T, rows []asked) {
	t.Helper()
	for _, c := range rows {
		p, l := made(t, c.text), script(t, c.events)
		seen := 0
		for _, bound := range bindings(len(p.Branches[0].Parts)+1, len(l)) {
			wanted := slices.ContainsFunc(c.wanted, func(w [][]int) bool { return slices.EqualFunc(w, bound, slices.Equal) })
			if wanted {
				seen++
			}
			if got := model.Begins(p, 0, l, bound); got != wanted {
				t.Errorf("%s over %s: Begins(%v): %v", c.text, c.events, bound, got)
			}
		}
		if seen != len(c.wanted) {
			t.Errorf("%s over %s: %d of %v are bindings", c.text, c.events, seen, c.wanted)
		}
	}
}

// P11.2: the chapter's example.
func TestBegins(t *testing.T) {
	wantBegins(t, []asked{
		{"PATTERN SEQ(Buy a, Sell+ b) STRATEGY NEXT WITHIN 9", "Buy 0 'ann 1|Bell 0|Sell 0 'ann 1|Sell 0 'ann 1", [][][]int{{{0}}, {{0}, {2}}, {{0}, {2, 3}}}},
		{"PATTERN SEQ(Buy a, Sell+ b) STRATEGY ANY WITHIN 9", "Buy 0 'ann 1|Bell 0|Sell 0 'ann 1|Sell 0 'ann 1", [][][]int{{{0}}, {{0}, {2}}, {{0}, {2, 3}}, {{0}, {3}}}},
		{"PATTERN SEQ(Buy a, Sell+ b) STRATEGY STRICT WITHIN 9", "Buy 0 'ann 1|Bell 0|Sell 0 'ann 1|Sell 0 'ann 1", [][][]int{{{0}}}},
	})
}

// P11.2, rule 1: types, and one stream.
func TestBeginsTypes(t *testing.T) {
	const keyed = "PATTERN SEQ(Buy a, Sell b) STRATEGY ANY WITHIN 9 PARTITION BY who"
	wantBegins(t, []asked{
		{"PATTERN SEQ(Buy a, Sell b) STRATEGY ANY WITHIN 9", "Buy 0 'ann 1|Sell 0 'bob 1|Buy 0 'ann 1", [][][]int{{{0}}, {{0}, {1}}, {{2}}}},
		{keyed, "Buy 0 'ann 1|Sell 0 'bob 1|Sell 0 'ann 1|Buy 0 'bob 1", [][][]int{{{0}}, {{0}, {2}}, {{3}}}},
		{"PATTERN SEQ(Buy+ a) STRATEGY ANY WITHIN 9 PARTITION BY who", "Buy 0 'ann 1|Buy 0 'bob 1|Buy 0 'ann 1", [][][]int{{{0}}, {{0, 2}}, {{1}}, {{2}}}},
		{"PATTERN SEQ(Rate a, Rate b) STRATEGY ANY WITHIN 9 PARTITION BY n", "Rate 0 #0000000000000000 'ann|Rate 0 #8000000000000000 'ann|Rate 0 #7ff8000000000000 'ann|Rate 0 #7ff8000000000000 'bob", [][][]int{{{0}}, {{1}}, {{2}}, {{2}, {3}}, {{3}}}},
	})
}

// P11.2, rule 1: an event that has no key is in no stream: it begins nothing, goes on with nothing, and stands between none.
func TestBeginsWithoutKey(t *testing.T) {
	for _, strategy := range []string{"STRICT", "NEXT", "ANY"} {
		p := made(t, "PATTERN SEQ(Buy+ a, !Sell b, Buy c) STRATEGY "+strategy+" WITHIN 9 PARTITION BY n")
		l := script(t, "Buy 0 'ann 1|Buy 0 'ann 1|Sell 0 'ann 1|Buy 0 'ann 1")
		for _, c := range []struct {
			place  int
			bound  [][]int
			wanted bool
		}{
			{0, [][]int{{0}}, false}, {0, [][]int{{1}}, true}, {0, [][]int{{0, 1}}, false},
			{1, [][]int{{0}}, true}, {1, [][]int{{0, 1}}, false}, {1, [][]int{{0}, {1}}, false},
			{2, [][]int{{0, 1}, {3}}, true}, {3, [][]int{{0, 1, 3}}, false}, {3, [][]int{{3}}, false},
		} {
			short := slices.Clone(l)
			short[c.place].Attrs = short[c.place].Attrs[:1]
			if got := model.Begins(p, 0, short, c.bound); got != c.wanted {
				t.Errorf("%s, the event %d without a key: Begins(%v): %v", strategy, c.place, c.bound, got)
			}
		}
		if model.Begins(p, 0, l, [][]int{{0, 1}, {3}}) {
			t.Errorf("%s: the event 2 doesn't keep 1 and 3 apart", strategy)
		}
	}
}

// P11.2, rule 2: what a guard looks at are the events ahead.
func TestBeginsGuards(t *testing.T) {
	const first = "PATTERN SEQ(Buy+ a) WHERE a.n = COUNT(a) STRATEGY ANY WITHIN 9"
	const both = "PATTERN SEQ(Buy+ a, Sell+ b) WHERE b.n = SUM(a.n) AND (COUNT(b) = 0 OR b.TIME > LAST(b.TIME)) STRATEGY ANY WITHIN 9"
	wantBegins(t, []asked{
		{first, "Buy 0 'ann 0|Buy 0 'ann 1|Buy 0 'ann 1|Buy 0 'ann 2", [][][]int{{{0}}, {{0, 1}}, {{0, 2}}, {{0, 1, 3}}, {{0, 2, 3}}}},
		{both, "Buy 0 'ann 2|Buy 0 'ann 3|Sell 1 'ann 5|Sell 1 'ann 5|Sell 2 'ann 5", [][][]int{{{0}}, {{1}}, {{0, 1}}, {{0, 1}, {2}}, {{0, 1}, {3}}, {{0, 1}, {4}}, {{0, 1}, {2, 4}}, {{0, 1}, {3, 4}}}},
		{"PATTERN SEQ(Buy a, Buy b) WHERE a.n / b.n > 0 STRATEGY ANY WITHIN 9", "Buy 0 'ann 4|Buy 0 'ann 0|Buy 0 'ann 2", [][][]int{{{0}}, {{1}}, {{2}}, {{0}, {2}}}},
		{"PATTERN SEQ(Buy a) WHERE 1 > 2 STRATEGY ANY WITHIN 9", "Buy 0 'ann 4", nil},
	})
}

// P11.2, rule 3: closes are asked of each position but the last.
func TestBeginsCloses(t *testing.T) {
	const left = "PATTERN SEQ(Buy+ a, Sell+ b) WHERE COUNT(a) = 2 AND LAST(a.n) > 1 AND COUNT(b) > 5 STRATEGY ANY WITHIN 9"
	wantBegins(t, []asked{
		{left, "Buy 0 'ann 1|Buy 0 'ann 2|Buy 0 'ann 1|Sell 0 'ann 1", [][][]int{{{0}}, {{1}}, {{2}}, {{0, 1}}, {{0, 2}}, {{1, 2}}, {{0, 1, 2}}, {{0, 1}, {3}}}},
	})
}

// P11.2, rule 3: no event is asked, when a position is left.
func TestBeginsClosesWithoutEvent(t *testing.T) {
	p, l := made(t, "PATTERN SEQ(Buy+ a, Sell b) WHERE a.n = 1 STRATEGY ANY WITHIN 9"), script(t, "Buy 0 'ann 1|Sell 0 'ann 1")
	if !model.Begins(p, 0, l, [][]int{{0}, {1}}) {
		t.Error("no beginning")
	}
	p.Branches[0].Parts[0].Closes = p.Branches[0].Parts[0].Guards
	if !model.Begins(p, 0, l, [][]int{{0}}) || model.Begins(p, 0, l, [][]int{{0}, {1}}) {
		t.Error("an event is asked, when a position is left")
	}
}

// P11.2, rule 4: the window, its end with it.
func TestBeginsWindow(t *testing.T) {
	const pair = "PATTERN SEQ(Buy a, Sell+ b) STRATEGY NEXT WITHIN "
	const events = "Buy 3 'ann 1|Sell 3 'ann 1|Sell 7 'ann 1|Sell 8 'ann 1"
	wantBegins(t, []asked{
		{pair + "0", events, [][][]int{{{0}}, {{0}, {1}}}},
		{pair + "3", events, [][][]int{{{0}}, {{0}, {1}}}},
		{pair + "4", events, [][][]int{{{0}}, {{0}, {1}}, {{0}, {1, 2}}}},
		{pair + "5", events, [][][]int{{{0}}, {{0}, {1}}, {{0}, {1, 2}}, {{0}, {1, 2, 3}}}},
		{pair + "1152921504606846976", "Buy 0 'ann 1|Sell 1152921504606846976 'ann 1", [][][]int{{{0}}, {{0}, {1}}}},
		{pair + "1152921504606846975", "Buy 0 'ann 1|Sell 1152921504606846976 'ann 1", [][][]int{{{0}}}},
	})
}

// P11.2, rule 5: Nots between two positions.
func TestBeginsNots(t *testing.T) {
	const quiet = "PATTERN SEQ(Buy+ a, !Bell b, !Buy c, Sell+ d, !Tick e, Buy f) WHERE c.n = COUNT(a) AND a.n > 0 STRATEGY ANY WITHIN 9"
	const own = "PATTERN SEQ(Buy a, !Sell b, Buy c) STRATEGY ANY WITHIN 9 PARTITION BY who"
	wantBegins(t, []asked{
		{quiet, "Buy 0 'ann 1|Bell 0|Sell 0 'ann 1", [][][]int{{{0}}}},
		{quiet, "Buy 0 'ann 1|Bell 0|Buy 0 'ann 1|Sell 0 'ann 1", [][][]int{{{0}}, {{0, 2}}, {{2}}, {{0, 2}, {3}}, {{2}, {3}}}},
		{quiet, "Bell 0|Buy 0 'ann 1|Sell 0 'ann 1|Bell 0|Sell 0 'ann 1", [][][]int{{{1}}, {{1}, {2}}, {{1}, {2, 4}}}},
		{quiet, "Buy 0 'ann 2|Buy 0 'ann 1|Sell 0 'ann 1", [][][]int{{{0}}, {{1}}, {{0, 1}}, {{1}, {2}}, {{0, 1}, {2}}}},
		{quiet, "Buy 0 'ann 1|Sell 0 'ann 1|Tick 0 0|Sell 0 'ann 1|Buy 0 'ann 0|Buy 0 'ann 3", [][][]int{
			{{0}}, {{5}}, {{0, 5}}, {{0}, {1}}, {{0}, {3}}, {{0}, {1, 3}}, {{0}, {3}, {4}}, {{0}, {1, 3}, {4}}, {{0}, {3}, {5}}, {{0}, {1, 3}, {5}},
		}},
		{own, "Buy 0 'ann 1|Sell 0 'bob 1|Buy 0 'ann 1", [][][]int{{{0}}, {{0}, {2}}, {{2}}}},
		{own, "Buy 0 'ann 1|Sell 0 'ann 1|Buy 0 'ann 1", [][][]int{{{0}}, {{2}}}},
	})
	p, l := made(t, "PATTERN SEQ(Buy a, !Rate b, Buy c) WHERE b.who = a.who STRATEGY ANY WITHIN 9"), script(t, "Buy 0 'ann 1|Rate 0 #0000000000000000 'ann|Buy 0 'ann 1")
	p.Keys = []int{1, 1, -1, -1, -1} // no Rate is in a stream
	if !model.Begins(p, 0, l, [][]int{{0}, {2}}) {
		t.Error("an event of no stream is one that mustn't stand between")
	}
	p.Keys = nil
	if model.Begins(p, 0, l, [][]int{{0}, {2}}) {
		t.Error("an event that mustn't stand between does")
	}
}

// P11.2, rule 6, under Strict.
func TestBeginsStrict(t *testing.T) {
	const pair = "PATTERN SEQ(Buy+ a, Sell b) STRATEGY STRICT WITHIN 9"
	const keyed = pair + " PARTITION BY who"
	wantBegins(t, []asked{
		{pair, "Buy 0 'ann 1|Buy 0 'ann 1|Sell 0 'ann 1", [][][]int{{{0}}, {{1}}, {{0, 1}}, {{0, 1}, {2}}, {{1}, {2}}}},
		{pair, "Buy 0 'ann 1|Bell 0|Sell 0 'ann 1|Sell 0 'ann 1", [][][]int{{{0}}}},
		{keyed, "Buy 0 'ann 1|Bell 0|Sell 0 'bob 1|Buy 0 'ann 1|Tick 0 0|Sell 0 'ann 1|Sell 0 'ann 1", [][][]int{{{0}}, {{3}}, {{0, 3}}, {{0, 3}, {5}}, {{3}, {5}}}},
	})
}

// P11.2, rule 6, under Next: what could have been taken, as one more or as the next one.
func TestBeginsNext(t *testing.T) {
	const pair = "PATTERN SEQ(Buy+ a, Sell b) WHERE b.n > 1 AND (COUNT(a) = 0 OR a.n > LAST(a.n)) STRATEGY NEXT WITHIN 9"
	const closed = "PATTERN SEQ(Buy+ a, Sell b) WHERE COUNT(a) > 1 STRATEGY NEXT WITHIN 9"
	const quiet = "PATTERN SEQ(Buy+ a, !Bell c, Sell b) STRATEGY NEXT WITHIN 9"
	const own = "PATTERN SEQ(Buy a, Sell b, Sell c) STRATEGY NEXT WITHIN 9 PARTITION BY who"
	wantBegins(t, []asked{
		{pair, "Buy 0 'ann 1|Sell 0 'ann 1|Sell 0 'ann 2|Sell 0 'ann 2", [][][]int{{{0}}, {{0}, {2}}}},
		{pair, "Buy 0 'ann 1|Buy 0 'ann 1|Buy 0 'ann 2|Buy 0 'ann 3|Sell 0 'ann 2", [][][]int{
			{{0}}, {{1}}, {{2}}, {{3}}, {{0, 2}}, {{0, 2, 3}}, {{1, 2}}, {{1, 2, 3}}, {{2, 3}}, {{0, 2, 3}, {4}}, {{1, 2, 3}, {4}}, {{2, 3}, {4}}, {{3}, {4}},
		}},
		// What could be the next one's first keeps one more of a Many away, too.
		{pair, "Buy 0 'ann 1|Sell 0 'ann 2|Buy 0 'ann 2|Sell 0 'ann 2", [][][]int{{{0}}, {{0}, {1}}, {{2}}, {{2}, {3}}}},
		// Where the closes don't hold it could not.
		{closed, "Buy 0 'ann 1|Sell 0 'ann 2|Buy 0 'ann 2|Sell 0 'ann 2|Buy 0 'ann 2", [][][]int{{{0}}, {{2}}, {{0, 2}}, {{0, 2}, {3}}, {{4}}, {{2, 4}}}},
		// Where a Not's event is between it could not.
		{quiet, "Buy 0 'ann 1|Bell 0|Sell 0 'ann 2|Buy 0 'ann 2|Sell 0 'ann 2", [][][]int{{{0}}, {{0, 3}}, {{0, 3}, {4}}, {{3}}, {{3}, {4}}}},
		// Nor one of another stream; one that could stand behind the next one doesn't keep that away.
		{own, "Buy 0 'ann 1|Sell 0 'bob 1|Sell 0 'ann 1|Sell 0 'bob 1|Sell 0 'ann 1|Sell 0 'ann 1", [][][]int{{{0}}, {{0}, {2}}, {{0}, {2}, {4}}}},
	})
}

// P11.2, rule 6, under Next: an event that is of both sorts may be taken as each.
func TestBeginsNextBothWays(t *testing.T) {
	const both = "PATTERN SEQ(Bell+ a, Bell+ b) STRATEGY NEXT WITHIN 9"
	wantBegins(t, []asked{
		{both, "Bell 0|Bell 1|Buy 1 'ann 1|Bell 2", [][][]int{{{0}}, {{0, 1}}, {{0}, {1}}, {{0, 1, 3}}, {{0, 1}, {3}}, {{0}, {1, 3}}, {{1}}, {{1, 3}}, {{1}, {3}}, {{3}}}},
	})
}

// P11.2: the second branch's beginnings are asked by its own parts.
func TestBeginsBranch(t *testing.T) {
	p := made(t, "PATTERN SEQ(Buy a) | SEQ(Sell b, Buy c) STRATEGY ANY WITHIN 9")
	l := script(t, "Buy 0 'ann 1|Sell 0 'ann 1|Buy 0 'ann 1")
	for b, wanted := range map[int][]string{0: {"0", "2"}, 1: {"1", "1;2"}, 2: nil, -1: nil, math.MinInt: nil, math.MaxInt: nil} {
		for text, bound := range map[string][][]int{"0": {{0}}, "1": {{1}}, "2": {{2}}, "0;2": {{0}, {2}}, "1;2": {{1}, {2}}, "0;1": {{0}, {1}}} {
			if got := model.Begins(p, b, l, bound); got != slices.Contains(wanted, text) {
				t.Errorf("Begins of the branch %d, %s: %v", b, text, got)
			}
		}
	}
	p.Branches[1].Id, p.Branches[0].Id = 0, 1
	if !model.Begins(p, 1, l, [][]int{{1}, {2}}) {
		t.Error("b is an Id, not a place")
	}
}

// P11.2: what is no binding is no beginning.
func TestBeginsNoBinding(t *testing.T) {
	l := row(4)
	for _, text := range []string{"PATTERN SEQ(Bell a, Bell+ b) STRATEGY ANY WITHIN 9", "PATTERN SEQ(Bell a, Bell+ b, !Buy c) STRATEGY NEXT WITHIN 9"} {
		p := made(t, text)
		for _, bound := range [][][]int{{{0}}, {{0}, {1}}, {{0}, {1, 2, 3}}, {{2}, {3}}} {
			if !model.Begins(p, 0, l, bound) {
				t.Errorf("%s: Begins(%v): false", text, bound)
			}
		}
		for _, bound := range [][][]int{
			nil, {}, {nil}, {{}}, {{}, {}}, {{}, {1}}, {nil, {0}}, {{0}, {}}, {{0}, nil}, {{0}, {1}, {}}, {{0}, {1}, nil}, // a position without events
			{{0, 1}}, {{0, 1}, {2}}, // several of a One
			{{0}, {1}, {2}}, {{0}, {1, 2}, {3}}, // a position too many
			{{0}, {0}}, {{0}, {1, 1}}, {{1}, {0}}, {{0}, {2, 1}}, {{2}, {2, 3}}, {{0}, {1, 2, 2}}, // not rising
			{{-1}}, {{4}}, {{math.MinInt}}, {{math.MaxInt}}, {{-1}, {0}}, {{0}, {4}}, {{0}, {1, 2, 3, 4}}, {{0}, {-1}}, {{0}, {math.MinInt}}, {{0}, {1, math.MaxInt}}, // no such event
		} {
			if model.Begins(p, 0, l, bound) {
				t.Errorf("%s: Begins(%v): true", text, bound)
			}
		}
		if model.Begins(p, 0, nil, [][]int{{0}}) {
			t.Errorf("%s: a beginning without a script", text)
		}
	}
}
