package step_test

import (
	"strings"
	"testing"

	"auspice/api"
	"auspice/sample"
	"auspice/step"
)

// turn is an event; how much is alive behind it, of how many cells; and what it tells.
type turn struct {
	event, alive, told string
}

// wantTurns pushes events, and closes behind them, the last turn being that of the closing where it has no event.
func wantTurns(t *testing.T, what string, a api.Auto, turns ...turn) {
	t.Helper()
	m := machine(t, a)
	if state(m) != "0 0" {
		t.Errorf("%s: at first %s alive", what, state(m))
	}
	for i, c := range turns {
		told := ""
		if c.event == "" {
			told = sample.Lines(m.Close())
			c.alive = "0 0"
		} else {
			told = pushed(t, m, one(t, c.event))
		}
		if told != c.told || state(m) != c.alive {
			t.Errorf("%s: at %d, %s: %q, alive %s; wanted %q, %s", what, i, c.event, told, state(m), c.told, c.alive)
		}
	}
}

// wantQuery is wantTurns of a query's automaton.
func wantQuery(t *testing.T, text string, turns ...turn) {
	t.Helper()
	wantTurns(t, text, made(t, text), turns...)
}

// The chapter's example, and the document's of the whole.
func TestExamples(t *testing.T) {
	wantQuery(t, "PATTERN SEQ(C a, C+ b) STRATEGY ANY WITHIN 10",
		turn{"C 0", "1 1", ""}, turn{"C 0", "3 3", "1 0: 0; 1"}, turn{"C 0", "7 7", "2 0: 0; 1 2|2 0: 0; 2|2 0: 1; 2"})
	wantQuery(t, "PATTERN SEQ(A a, B b) STRATEGY ANY WITHIN 10",
		turn{"A 0 ann 1", "1 1", ""}, turn{"B 3 bob 2", "1 1", "1 0: 0; 1"}, turn{"B 11 ann 3", "0 0", ""})
	wantQuery(t, "PATTERN SEQ(A a, B b) STRATEGY ANY WITHIN 10 PARTITION BY k",
		turn{"A 0 ann 1", "1 1", ""}, turn{"B 3 bob 2", "1 1", ""}, turn{"B 11 ann 3", "0 0", ""})
	wantQuery(t, "PATTERN SEQ(A a, B+ b) STRATEGY ANY WITHIN 10",
		turn{"A 0", "1 1", ""}, turn{"B 0", "2 2", "1 0: 0; 1"}, turn{"B 0", "4 4", "2 0: 0; 1 2|2 0: 0; 2"})
	wantQuery(t, "PATTERN SEQ(A a, B+ b) STRATEGY STRICT WITHIN 10",
		turn{"A 0", "1 1", ""}, turn{"B 0", "1 2", "1 0: 0; 1"}, turn{"B 0", "1 3", "2 0: 0; 1 2"})
	wantQuery(t, "PATTERN SEQ(A+ a) WHERE COUNT(a) = 0 OR a.x > LAST(a.x) STRATEGY NEXT WITHIN 10",
		turn{"A 0 ann 1", "1 1", "0 0: 0"}, turn{"A 1 ann 3", "2 3", "1 0: 0 1|1 0: 1"}, turn{"A 2 ann 2", "3 4", "2 0: 2"}, turn{"A 3 ann 4", "4 8", "3 0: 0 1 3|3 0: 1 3|3 0: 2 3|3 0: 3"})
	wantQuery(t, "PATTERN SEQ(A a, !B s) STRATEGY ANY WITHIN 5",
		turn{"A 0", "1 1", ""}, turn{"C 6", "0 0", "1 0: 0"}, turn{})
	wantQuery(t, "PATTERN SEQ(A a, !B s) STRATEGY ANY WITHIN 5",
		turn{"A 0", "1 1", ""}, turn{told: "1 0: 0"})
	wantQuery(t, "PATTERN SEQ(A a, B b) | SEQ(A c, C d) STRATEGY NEXT WITHIN 9",
		turn{"A 0", "2 1", ""}, turn{"C 1", "1 1", "1 1: 0; 1"}, turn{"B 2", "0 0", "2 0: 0; 2"}, turn{"C 9", "0 0", ""})
}

// P15.2, 1: the window is over where it is passed, be the event of whatever stream, or of none.
func TestWindow(t *testing.T) {
	const keyed = "PATTERN SEQ(A a, B b) STRATEGY ANY WITHIN 5 PARTITION BY k"
	for _, last := range []string{"A 8 bob", "B 8 ann", "C 8"} {
		gone, alive := "0 0", "2 2"
		if last == "A 8 bob" {
			gone, alive = "1 1", "3 3"
		}
		wantQuery(t, keyed, turn{"A 2 ann", "1 1", ""}, turn{"A 2 bob", "2 2", ""}, turn{last, gone, ""})
		told := ""
		if last == "B 8 ann" {
			told = "2 0: 0; 2"
		}
		wantQuery(t, strings.Replace(keyed, "5", "6", 1), turn{"A 2 ann", "1 1", ""}, turn{"A 2 bob", "2 2", ""}, turn{last, alive, told})
	}
	wantQuery(t, "PATTERN SEQ(C+ a) STRATEGY ANY WITHIN 0",
		turn{"C 3", "1 1", "0 0: 0"}, turn{"C 3", "3 3", "1 0: 0 1|1 0: 1"}, turn{"C 4", "1 1", "2 0: 2"})
	wantQuery(t, "PATTERN SEQ(C a, C b) STRATEGY ANY WITHIN 1152921504606846976",
		turn{"C 0", "1 1", ""}, turn{"C 1152921504606846976", "2 2", "1 0: 0; 1"}, turn{"C 1152921504606846976", "3 3", "2 0: 0; 2|2 0: 1; 2"})
	// from the first event on, not from the last one
	wantQuery(t, "PATTERN SEQ(C+ a) STRATEGY STRICT WITHIN 2",
		turn{"C 0", "1 1", "0 0: 0"}, turn{"C 2", "2 3", "1 0: 0 1|1 0: 1"}, turn{"C 3", "2 3", "2 0: 1 2|2 0: 2"})
}

// P15.2, 1: waits are told when their window is over, in order, ahead of what the event does.
func TestWaits(t *testing.T) {
	const quiet = "PATTERN SEQ(A+ a, !B b) STRATEGY ANY WITHIN 5"
	wantQuery(t, quiet, turn{"A 0", "2 1", ""}, turn{"A 1", "6 3", ""}, turn{"C 5", "6 3", ""}, turn{"C 6", "2 1", "3 0: 0|3 0: 0 1"}, turn{"B 7", "0 0", "4 0: 1"}, turn{})
	wantQuery(t, quiet, turn{"A 0", "2 1", ""}, turn{"A 1", "6 3", ""}, turn{"B 5", "3 3", ""}, turn{"A 5", "11 7", ""}, turn{told: "4 0: 0 1 3|4 0: 0 3|4 0: 1 3|4 0: 3"})
	wantQuery(t, quiet, turn{"A 0", "2 1", ""}, turn{"B 6", "0 0", "1 0: 0"}, turn{"B 6", "0 0", ""}, turn{})
	wantQuery(t, quiet+" PARTITION BY k", turn{"A 0 ann", "2 1", ""}, turn{"A 1 bob", "4 2", ""}, turn{"B 1 bob", "3 2", ""}, turn{"C 6", "1 1", "3 0: 0"}, turn{"C 7", "0 0", ""}, turn{})
	// what makes a wait doesn't bar it
	wantQuery(t, "PATTERN SEQ(A a, !A b) STRATEGY NEXT WITHIN 5", turn{"A 0", "1 1", ""}, turn{"A 0", "1 1", ""}, turn{"A 0", "1 1", ""}, turn{told: "3 0: 2"})
	// a wait has no strategy
	wantQuery(t, "PATTERN SEQ(A a, !B b) STRATEGY STRICT WITHIN 5", turn{"A 0", "1 1", ""}, turn{"C 0", "1 1", ""}, turn{"A 0", "2 2", ""}, turn{told: "3 0: 0|3 0: 2"})
	// what is told at one step of waits and of runs is in order
	wantQuery(t, "PATTERN SEQ(A a, !B b) | SEQ(A c, A d) STRATEGY ANY WITHIN 1",
		turn{"A 0", "2 1", ""}, turn{"A 1", "4 2", "1 1: 0; 1"}, turn{"A 2", "4 2", "2 0: 0|2 1: 1; 2"}, turn{"A 2", "6 3", "3 1: 1; 3|3 1: 2; 3"}, turn{told: "4 0: 1|4 0: 2|4 0: 3"})
	// one Bar of several is enough, and its Guards look at the binding and the event
	wantQuery(t, "PATTERN SEQ(A+ a, !B b, !C c) WHERE b.x = COUNT(a) STRATEGY STRICT WITHIN 5",
		turn{"A 0", "2 1", ""}, turn{"A 0", "5 3", ""}, turn{"B 0 ann 2", "2 2", ""}, turn{"B 0 ann 3", "2 2", ""}, turn{"C 5", "0 0", ""})
}

// P15.2, 2, under Strict: a run of the event's stream goes on or is no more.
func TestStrict(t *testing.T) {
	wantQuery(t, "PATTERN SEQ(A+ a, B b) STRATEGY STRICT WITHIN 9",
		turn{"A 0", "1 1", ""}, turn{"A 0", "2 3", ""}, turn{"B 0", "0 0", "2 0: 0 1; 2|2 0: 1; 2"}, turn{"A 0", "1 1", ""}, turn{"C 0", "0 0", ""}, turn{"B 0", "0 0", ""})
	wantQuery(t, "PATTERN SEQ(A+ a, A b, C c) STRATEGY STRICT WITHIN 9",
		turn{"A 0", "1 1", ""}, turn{"A 0", "3 4", ""}, turn{"C 0", "0 0", "2 0: 0; 1; 2"})
	wantQuery(t, "PATTERN SEQ(A+ a, B b) STRATEGY STRICT WITHIN 9 PARTITION BY k",
		turn{"A 0 ann", "1 1", ""}, turn{"A 0 bob", "2 2", ""}, turn{"C 0", "2 2", ""}, turn{"B 0 ann", "1 1", "3 0: 0; 3"}, turn{"A 0 ann", "2 2", ""}, turn{"B 0 bob", "1 1", "5 0: 1; 5"})
}

// P15.2, 2, under Next: what could be taken is.
func TestNext(t *testing.T) {
	// once more: the run is no more; a child: it is closed
	wantQuery(t, "PATTERN SEQ(A+ a, B b) STRATEGY NEXT WITHIN 9",
		turn{"A 0", "1 1", ""}, turn{"C 0", "1 1", ""}, turn{"A 0", "2 3", ""}, turn{"B 0", "0 0", "3 0: 0 2; 3|3 0: 2; 3"}, turn{"B 0", "0 0", ""})
	// both: one run by each
	wantQuery(t, "PATTERN SEQ(A+ a, A+ b) STRATEGY NEXT WITHIN 9",
		turn{"A 0", "1 1", ""}, turn{"A 0", "3 4", "1 0: 0; 1"}, turn{"A 0", "6 10", "2 0: 0; 1 2|2 0: 0 1; 2|2 0: 1; 2"})
	// where Leaves don't hold nothing is taken, and nothing closed
	wantQuery(t, "PATTERN SEQ(A+ a, B b) WHERE COUNT(a) = 2 STRATEGY NEXT WITHIN 9",
		turn{"A 0", "1 1", ""}, turn{"B 0", "1 1", ""}, turn{"A 0", "2 3", ""}, turn{"B 0", "1 1", "3 0: 0 2; 3"}, turn{"A 0", "2 3", ""}, turn{"B 0", "1 1", "5 0: 2 4; 5"})
	// where Guards don't hold neither
	wantQuery(t, "PATTERN SEQ(A a, B b) WHERE b.x > a.x STRATEGY NEXT WITHIN 9",
		turn{"A 0 ann 1", "1 1", ""}, turn{"B 0 ann 1", "1 1", ""}, turn{"B 0 ann 2", "0 0", "2 0: 0; 2"})
}

// P15.2, 2, under Any: a run stays, whatever is taken.
func TestAny(t *testing.T) {
	wantQuery(t, "PATTERN SEQ(A+ a, B b) STRATEGY ANY WITHIN 9",
		turn{"A 0", "1 1", ""}, turn{"C 0", "1 1", ""}, turn{"A 0", "3 3", ""}, turn{"B 0", "3 3", "3 0: 0; 3|3 0: 0 2; 3|3 0: 2; 3"}, turn{"B 0", "3 3", "4 0: 0; 4|4 0: 0 2; 4|4 0: 2; 4"})
	// positions, not events alone, tell cells apart
	wantQuery(t, "PATTERN SEQ(A+ a, A+ b) STRATEGY ANY WITHIN 9",
		turn{"A 0", "1 1", ""}, turn{"A 0", "4 4", "1 0: 0; 1"}, turn{"A 0", "12 12", "2 0: 0; 1 2|2 0: 0; 2|2 0: 0 1; 2|2 0: 1; 2"})
}

// P15.2, 2: a child that is barred takes nothing, until its parent takes one more.
func TestBarred(t *testing.T) {
	const quiet = "PATTERN SEQ(A+ a, !C n, B b) STRATEGY "
	wantQuery(t, quiet+"ANY WITHIN 9", turn{"A 0", "1 1", ""}, turn{"C 0", "1 1", ""}, turn{"B 0", "1 1", ""}, turn{"A 0", "3 3", ""}, turn{"B 0", "3 3", "4 0: 0 3; 4|4 0: 3; 4"}, turn{"C 0", "3 3", ""}, turn{"B 0", "3 3", ""})
	wantQuery(t, quiet+"NEXT WITHIN 9", turn{"A 0", "1 1", ""}, turn{"C 0", "1 1", ""}, turn{"B 0", "1 1", ""}, turn{"A 0", "2 3", ""}, turn{"B 0", "0 0", "4 0: 0 3; 4|4 0: 3; 4"})
	wantQuery(t, quiet+"STRICT WITHIN 9", turn{"A 0", "1 1", ""}, turn{"C 0", "0 0", ""}, turn{"B 0", "0 0", ""})
	// a One whose only child is barred can't go on
	for _, strategy := range []string{"ANY", "NEXT"} {
		wantQuery(t, "PATTERN SEQ(A a, !C n, B b) STRATEGY "+strategy+" WITHIN 9", turn{"A 0", "1 1", ""}, turn{"C 0", "0 0", ""}, turn{"B 0", "0 0", ""})
	}
	// an event that is taken bars, too: behind that under Any
	wantQuery(t, "PATTERN SEQ(A a, !B n, B b) STRATEGY ANY WITHIN 9", turn{"A 0", "1 1", ""}, turn{"B 0", "0 0", "1 0: 0; 1"})
	wantQuery(t, "PATTERN SEQ(A+ a, !B n, B b) STRATEGY ANY WITHIN 9", turn{"A 0", "1 1", ""}, turn{"B 0", "1 1", "1 0: 0; 1"}, turn{"B 0", "1 1", ""}, turn{"A 0", "3 3", ""}, turn{"B 0", "3 3", "4 0: 0 3; 4|4 0: 3; 4"})
	// only what its Guards hold of bars, and only of the stream
	wantQuery(t, "PATTERN SEQ(A a, !B n, !B m, A b) WHERE n.x > a.x AND m.x = 0 STRATEGY ANY WITHIN 9 PARTITION BY k",
		turn{"A 0 ann 2", "1 1", ""}, turn{"B 0 ann 1", "1 1", ""}, turn{"B 0 bob 9", "1 1", ""}, turn{"A 0 ann", "2 2", "3 0: 0; 3"}, turn{"B 0 ann 3", "0 0", ""}, turn{"A 0 ann", "1 1", ""}, turn{"B 0 ann 0", "0 0", ""})
}

func constant(v api.Value) api.Node {
	return api.Node{Op: api.Const, Kind: v.Kind, Value: v}
}

// hold are conditions that hold of an event of A or B with that x.
func hold(x int64) []api.Node {
	return []api.Node{{Op: api.OpEq, Kind: api.Bool, Args: []api.Node{{Op: api.Cur, Kind: api.Int, Attr: 1}, constant(sample.Int(x))}}}
}

// counted are conditions that hold where a position has so many events.
func counted(pos int, n int64) []api.Node {
	return []api.Node{{Op: api.OpEq, Kind: api.Bool, Args: []api.Node{{Op: api.Count, Kind: api.Int, Pos: pos}, constant(sample.Int(n))}}}
}

// tree is a Many A with an End, a child B and a child C with a Bar, which have Ends.
func tree(strategy int) api.Auto {
	return api.Auto{Strategy: strategy, States: []api.State{
		{Parent: -1, Type: 0, Many: true, Window: 9, Ends: []api.End{{Branch: 2}}},
		{Parent: 0, Type: 1, Window: 9, Ends: []api.End{{Branch: 1}}},
		{Parent: 0, Type: 2, Window: 9, Bars: []api.Bar{{Type: 1, Guards: hold(7)}}, Ends: []api.End{{Branch: 0}}},
	}}
}

// P15.2, 2 and 6, under Next: children are closed one by one, and stay so in what takes one more; barred is nothing there.
func TestClosed(t *testing.T) {
	wantTurns(t, "closed, one behind the other", tree(api.Next),
		turn{"A 0", "1 1", "0 2: 0"}, turn{"B 0", "1 1", "1 1: 0; 1"}, turn{"B 0", "1 1", ""}, turn{"A 0", "2 3", "3 2: 0 3|3 2: 3"},
		turn{"C 0", "2 3", "4 0: 0 3; 4|4 0: 3; 4"}, turn{"B 0", "2 3", "5 1: 3; 5"}, turn{"C 0", "2 3", ""}, turn{"A 0", "3 6", "7 2: 0 3 7|7 2: 3 7|7 2: 7"}, turn{"B 0", "3 6", "8 1: 7; 8"})
	wantTurns(t, "barred, then not", tree(api.Next),
		turn{"A 0", "1 1", "0 2: 0"}, turn{"B 0 ann 7", "1 1", "1 1: 0; 1"}, turn{"C 0", "1 1", ""}, turn{"A 0", "2 3", "3 2: 0 3|3 2: 3"}, turn{"C 0", "2 3", "4 0: 0 3; 4|4 0: 3; 4"}, turn{"B 0", "2 3", "5 1: 3; 5"})
	wantTurns(t, "under Any nothing is closed", tree(api.Any),
		turn{"A 0", "1 1", "0 2: 0"}, turn{"B 0", "1 1", "1 1: 0; 1"}, turn{"B 0 ann 7", "1 1", "2 1: 0; 2"}, turn{"C 0", "1 1", ""}, turn{"A 0", "3 3", "4 2: 0 4|4 2: 4"}, turn{"C 0", "3 3", "5 0: 0 4; 5|5 0: 4; 5"})
	// without the End: a Many whose children are all closed can't go on; one is enough that is barred
	a := tree(api.Next)
	a.States[0].Ends = nil
	wantTurns(t, "all closed", a, turn{"A 0", "1 1", ""}, turn{"B 0", "1 1", "1 1: 0; 1"}, turn{"C 0", "0 0", "2 0: 0; 2"})
	wantTurns(t, "one closed, one barred", a, turn{"A 0", "1 1", ""}, turn{"B 0 ann 7", "1 1", "1 1: 0; 1"}, turn{"C 0", "1 1", ""}, turn{"B 0", "1 1", ""})
	// of a One both must not be
	a.States[0].Many = false
	wantTurns(t, "a One", a, turn{"A 0", "1 1", ""}, turn{"B 0 ann 7", "0 0", "1 1: 0; 1"})
	wantTurns(t, "a One, one of two closed", a, turn{"A 0", "1 1", ""}, turn{"B 0", "1 1", "1 1: 0; 1"}, turn{"C 0", "0 0", "2 0: 0; 2"})
	// nor does an End help it
	a.States[0].Ends = []api.End{{Branch: 2}}
	wantTurns(t, "a One with an End", a, turn{"A 0", "1 1", "0 2: 0"}, turn{"B 0 ann 7", "0 0", "1 1: 0; 1"})
}

// P15.2, 2: Leaves are each child's own, and are asked of no event; Guards are asked of the event, of the binding ahead of it.
func TestConditions(t *testing.T) {
	a := tree(api.Any)
	a.States[1].Leaves, a.States[2].Leaves = counted(0, 1), counted(0, 2)
	wantTurns(t, "Leaves", a, turn{"A 0", "1 1", "0 2: 0"}, turn{"A 0", "3 3", "1 2: 0 1|1 2: 1"}, turn{"B 0", "3 3", "2 1: 0; 2|2 1: 1; 2"}, turn{"C 0", "3 3", "3 0: 0 1; 3"})
	a = tree(api.Any)
	a.States[1].Leaves = hold(0)
	a.States[2].Leaves = []api.Node{{Op: api.OpNe, Kind: api.Bool, Args: []api.Node{{Op: api.Cur, Kind: api.Int, Attr: -1}, constant(sample.Int(9))}}}
	wantTurns(t, "Leaves that ask", a, turn{"A 0", "1 1", "0 2: 0"}, turn{"B 0", "1 1", ""}, turn{"C 0", "1 1", ""})
	a = tree(api.Any)
	a.States[0].Guards = append(counted(0, 0), counted(1, 0)...)
	a.States[1].Guards = append(counted(0, 1), counted(1, 0)...)
	wantTurns(t, "Guards", a, turn{"A 0", "1 1", "0 2: 0"}, turn{"A 0", "2 2", "1 2: 1"}, turn{"B 0", "2 2", "2 1: 0; 2|2 1: 1; 2"})
	a.States[0].Guards = hold(3)
	wantTurns(t, "Guards that ask", a, turn{"A 0", "0 0", ""}, turn{"A 0 ann 3", "1 1", "1 2: 1"}, turn{"A 0", "1 1", ""}, turn{"A 0 ann 3", "3 3", "3 2: 1 3|3 2: 3"})
}

// P15.2, 5: each End for itself, its Closes asked of no event.
func TestEnds(t *testing.T) {
	one := api.Auto{Strategy: api.Strict, States: []api.State{{Parent: -1, Many: true, Window: 9, Ends: []api.End{
		{Branch: 3}, {Branch: 1, Closes: counted(0, 2)}, {Branch: 0, Bars: []api.Bar{{Type: 1}}}, {Branch: 5, Bars: []api.Bar{{Type: 0}}, Closes: counted(0, 1)}, {Branch: 4, Closes: hold(0)}, {Branch: 3},
	}}}}
	wantTurns(t, "Ends", one,
		turn{"A 0", "3 1", "0 3: 0|0 3: 0"}, turn{"A 0", "6 3", "1 1: 0 1|1 3: 0 1|1 3: 0 1|1 3: 1|1 3: 1"}, turn{"C 0", "4 3", ""}, turn{"B 1", "1 1", ""}, turn{told: "4 5: 1"})
	one.States[0].Ends = []api.End{{Branch: 7, Bars: []api.Bar{{Type: 2}, {Type: 1, Guards: hold(7)}}}, {Branch: 7, Bars: []api.Bar{{Type: 1}}}}
	wantTurns(t, "two waits of one branch", one, turn{"A 0", "3 1", ""}, turn{"B 0", "1 1", ""}, turn{"A 0", "4 2", ""}, turn{"B 0 ann 7", "0 0", ""}, turn{"A 0", "3 1", ""}, turn{told: "5 7: 4|5 7: 4"})
}

// P15.2, 1: a state's own window counts, from the event on behind that which led to it.
func TestOwnWindows(t *testing.T) {
	a := tree(api.Any)
	a.States[1].Window, a.States[2].Window = 3, 20
	a.States[1].Ends[0].Bars, a.States[2].Ends[0].Bars = []api.Bar{{Type: 2}}, []api.Bar{{Type: 1}}
	wantTurns(t, "windows", a,
		turn{"A 0", "1 1", "0 2: 0"}, turn{"B 5", "2 2", ""}, turn{"A 5", "3 3", "2 1: 0; 1|2 2: 0 2|2 2: 2"},
		turn{"C 9", "6 6", ""}, turn{"A 10", "6 8", "4 2: 2 4|4 2: 4"}, turn{"A 20", "4 7", "5 2: 5"}, turn{"A 21", "4 5", "6 0: 0; 3|6 0: 0 2; 3|6 2: 5 6|6 2: 6"}, turn{"B 25", "6 6", ""}, turn{"A 26", "7 7", "8 1: 5; 7|8 1: 5 6; 7|8 1: 6; 7|8 2: 5 6 8|8 2: 5 8|8 2: 6 8|8 2: 8"})
}

// P15.2, 4 and 5: without a key's attribute there is no stream; but windows end.
func TestWithoutStream(t *testing.T) {
	a := tree(api.Strict)
	a.Keys = []int{0, -1}
	wantTurns(t, "some types have no key", a, turn{"A 0", "1 1", "0 2: 0"}, turn{"B 0", "1 1", ""}, turn{"C 0", "1 1", ""}, turn{"A 0", "2 3", "3 2: 0 3|3 2: 3"}, turn{"A 0 bob", "3 4", "4 2: 4"}, turn{"C 10", "0 0", ""})
	for _, keys := range [][]int{{4, 4, 4}, {-2, -2, -2}, {-1}, {-1 << 63, 1<<63 - 1}} {
		a.Keys = keys
		wantTurns(t, "no type has a key", a, turn{"A 0", "0 0", ""}, turn{"B 0", "0 0", ""}, turn{"C 0", "0 0", ""}, turn{})
	}
}

// P15.2: keys are told apart as layer 2's Same does, and an attribute may be another from type to type.
func TestKeys(t *testing.T) {
	s := api.Schema{Types: []api.Type{{Name: "A", Fields: []api.Field{{Name: "r", Kind: api.Real}, {Name: "i", Kind: api.Int}}}, {Name: "B", Fields: []api.Field{{Name: "i", Kind: api.Int}, {Name: "r", Kind: api.Real}}}}}
	a := api.Auto{Strategy: api.Any, Keys: []int{0, 1}, States: []api.State{{Parent: -1, Window: 9}, {Parent: 0, Type: 1, Window: 9, Ends: []api.End{{}}}}}
	script := []api.Event{}
	for _, bits := range []uint64{0, sample.SignBit, sample.NaN} {
		script = append(script, api.Event{Attrs: []api.Value{sample.Real(bits), sample.Int(7)}})
	}
	for _, bits := range []uint64{sample.NaN, 0, sample.SignBit, sample.One} {
		script = append(script, api.Event{Type: 1, Attrs: []api.Value{sample.Int(7), sample.Real(bits)}})
	}
	l, at, err := step.Run(s, a, script)
	if got := sample.Lines(l); got != "3 0: 2; 3|4 0: 0; 4|5 0: 1; 5" || at != 0 || err != api.OK {
		t.Errorf("%s, %d at %d", got, err, at)
	}
}

// P15.3: cells that are the same count once, be they of several states, of runs or of waits.
func TestCells(t *testing.T) {
	wantQuery(t, "PATTERN SEQ(A a, B b, C c) | SEQ(A d, B e) | SEQ(A+ f, !C n, B+ g, !A m) STRATEGY ANY WITHIN 9",
		turn{"A 0", "3 1", ""}, turn{"B 0", "6 2", "1 1: 0; 1"}, turn{"B 0", "11 4", "2 1: 0; 2"}, turn{"C 1", "11 4", "3 0: 0; 1; 3|3 0: 0; 2; 3"},
		turn{"A 1", "12 6", ""}, turn{"C 10", "3 1", ""}, turn{})
}
