package drive_test

import (
	"math"
	"strconv"
	"strings"
	"testing"

	"auspice/api"
	"auspice/drive"
	"auspice/real"
	"auspice/sample"
)

// tick is a Tick's line.
func tick(time int, price float64) string {
	return "Tick " + strconv.Itoa(time) + " " + real.Text(math.Float64bits(price))
}

// The chapter's examples.
func TestChapterExamples(t *testing.T) {
	const text = "PATTERN SEQ(Buy a, Sell b) STRATEGY ANY WITHIN 10"
	lines := []string{"Buy 0 'ann 1", "Sell 3 'bob 2", "Sell 11 'ann 3"}
	wantSession(t, market(), text, most(), lines, "1 0: 0; 1")
	wantSession(t, market(), text, most(), append(lines, "Buy"), "1 0: 0; 1|error 20 at 3")
	wantSession(t, market(), "PATTERN", most(), lines, "error 13 at 7")
}

// DOC.md's examples of the whole.
func TestExamples(t *testing.T) {
	nan := math.NaN()
	for _, c := range []struct {
		text   string
		lines  []string
		wanted string
	}{
		{"PATTERN SEQ(Buy a, Sell b) STRATEGY ANY WITHIN 10", []string{"Buy 0 'ann 1", "Sell 3 'bob 2", "Sell 11 'ann 3"}, "1 0: 0; 1"},
		{"PATTERN SEQ(Buy a, Sell b) STRATEGY ANY WITHIN 10 PARTITION BY who", []string{"Buy 0 'ann 1", "Sell 3 'bob 2", "Sell 11 'ann 3"}, ""},
		{"PATTERN SEQ(Buy a, Sell+ b) STRATEGY ANY WITHIN 10", []string{"Buy 0 'ann 1", "Sell 0 'ann 1", "Sell 0 'ann 1"}, "1 0: 0; 1|2 0: 0; 1 2|2 0: 0; 2"},
		{"PATTERN SEQ(Buy a, Sell+ b) STRATEGY STRICT WITHIN 10", []string{"Buy 0 'ann 1", "Sell 0 'ann 1", "Sell 0 'ann 1"}, "1 0: 0; 1|2 0: 0; 1 2"},
		{"PATTERN SEQ(Buy a, !Tick t, Sell b) WHERE t.p > 1.5 STRATEGY NEXT WITHIN 10", []string{"Buy 0 'ann 1", tick(0, 2), "Sell 0 'ann 1"}, ""},
		{"PATTERN SEQ(Buy a, !Tick t, Sell b) WHERE t.p > 1.5 STRATEGY NEXT WITHIN 10", []string{"Buy 0 'ann 1", tick(0, nan), "Sell 0 'ann 1"}, "2 0: 0; 2"},
		{"PATTERN SEQ(Buy a, !Tick t, Sell b) WHERE t.p > 1.5 STRATEGY NEXT WITHIN 10", []string{"Buy 0 'ann 1", tick(0, 1.5), "Sell 0 'ann 1"}, "2 0: 0; 2"},
		{"PATTERN SEQ(Tick+ t) WHERE COUNT(t) = 0 OR t.p > LAST(t.p) STRATEGY NEXT WITHIN 10", []string{tick(0, 1), tick(1, 3), tick(2, 2), tick(3, 4)}, "0 0: 0|1 0: 0 1|1 0: 1|2 0: 2|3 0: 0 1 3|3 0: 1 3|3 0: 2 3|3 0: 3"},
		{"PATTERN SEQ(Buy a, !Sell s) STRATEGY ANY WITHIN 5", []string{"Buy 0 'ann 1", tick(6, 1)}, "1 0: 0"},
		{"PATTERN SEQ(Buy a, !Sell s) STRATEGY ANY WITHIN 5", []string{"Buy 0 'ann 1"}, "1 0: 0"},
		{"PATTERN SEQ(Buy a, !Sell s) STRATEGY ANY WITHIN 5", []string{"Buy 0 'ann 1", "Sell 5 'bob 1", tick(6, 1)}, ""},
		{"PATTERN SEQ(Buy a, Sell b) WHERE a.n / b.n > 1 STRATEGY ANY WITHIN 5", []string{"Buy 0 'ann 5", "Sell 0 'ann 0", "Sell 0 'ann 3", "Sell 0 'ann 2"}, "3 0: 0; 3"},
		{"PATTERN SEQ(Buy a) WHERE a.n = TRUE STRATEGY ANY WITHIN 5", []string{"Buy 0 'ann 1"}, "error 11 at 29"},
		{"PATTERN SEQ(Buy a, Sell b) | SEQ(Buy c, Tick d) STRATEGY NEXT WITHIN 9", []string{"Buy 0 'ann 1", tick(1, 1), "Sell 2 'ann 1", tick(3, 1)}, "1 1: 0; 1|2 0: 0; 2"},
	} {
		wantSession(t, market(), c.text, most(), c.lines, c.wanted)
	}
}

// P26.4: a line that is no event's, one that goes back in time, one behind which too much is alive: its place among the lines, and nothing more.
func TestSessionErrors(t *testing.T) {
	const text = "PATTERN SEQ(A a, A+ b) | SEQ(C c, !B d) STRATEGY ANY WITHIN 9"
	a := func(time int) string { return "A " + strconv.Itoa(time) + " 'ann 0 #0000000000000000 true" }
	bounds := func(runs, cells int) api.Bounds {
		b := most()
		b.Runs, b.Cells = runs, cells
		return b
	}
	for _, c := range []struct {
		lines  []string
		b      api.Bounds
		wanted string
	}{
		{nil, least(), ""},
		{[]string{"C 0"}, least(), "1 1: 0"},
		{[]string{""}, least(), "error 20 at 0"},
		{[]string{"C 0", ""}, least(), "error 20 at 1"},
		{[]string{"C 0", "C 10", "C 01"}, most(), "1 1: 0|error 20 at 2"},
		{[]string{"C 0", "D 0", "C 1"}, most(), "error 20 at 1"},
		{[]string{"C 5", "C 6", "C 4"}, most(), "error 21 at 2"},
		{[]string{"C 5", "C 4", "c"}, most(), "error 21 at 1"},
		{[]string{"C 5", "c", "C 4"}, most(), "error 20 at 1"},
		{[]string{"C 5", "C 5 "}, most(), "error 20 at 1"},
		{[]string{a(0), a(1), "A 2 'cid 0 #0000000000000000 true"}, most(), "1 0: 0; 1|error 20 at 2"},
		{[]string{a(0), a(1), "A 2 'ann 0 #7ff8000000000001 true"}, most(), "1 0: 0; 1|error 20 at 2"},
		{[]string{a(0), a(1)}, bounds(3, 3), "1 0: 0; 1"},
		{[]string{a(0), a(1), a(2)}, bounds(3, 3), "1 0: 0; 1|error 22 at 2"},
		{[]string{a(0), a(1), a(2)}, bounds(7, 6), "1 0: 0; 1|error 23 at 2"},
		{[]string{a(0), a(1), a(2)}, bounds(6, 6), "1 0: 0; 1|error 22 at 2"},
		{[]string{a(0), a(1), a(2)}, bounds(7, 7), "1 0: 0; 1|2 0: 0; 1 2|2 0: 0; 2|2 0: 1; 2"},
		{[]string{"C 0", "C 0", "B 0 'ann 0 #0000000000000000 true", "C 1", "C 1", "C 1"}, bounds(2, 9), "error 22 at 5"},
		{[]string{"C 0", "C 10", "C 20"}, bounds(1, 1), "1 1: 0|2 1: 1|3 1: 2"},
		{[]string{"C 0", a(0), "C 9", a(9), "C 10"}, most(), "3 0: 1; 3|4 1: 0|5 1: 2|5 1: 4"},
	} {
		wantSession(t, sample.Shop(), text, c.b, c.lines, c.wanted)
	}
}

// P26.4: where Compile answers an error just that, whatever the lines.
func TestSessionRefused(t *testing.T) {
	const good = "PATTERN SEQ(C a) STRATEGY ANY WITHIN 5"
	b := most()
	short, none := b, b
	short.Text, none.States = 9, 0
	for _, c := range []struct {
		s      api.Schema
		text   string
		level  int
		b      api.Bounds
		wanted string
	}{
		{sample.Shop(), good, 4, b, "error 1 at 0"},
		{sample.Shop(), good, -1, b, "error 1 at 0"},
		{sample.Shop(), good, 0, api.Bounds{}, "error 1 at 0"},
		{sample.Shop(), good, 0, short, "error 16 at 9"},
		{sample.Shop(), good, 1, none, "error 16 at 0"},
		{sample.Shop(), good + "\x00", 2, b, "error 12 at 38"},
		{sample.Shop(), "PATTERN SEQ(C a) WHERE " + strings.Repeat("NOT ", 31) + "TRUE STRATEGY ANY WITHIN 5", 3, b, "error 14 at 143"},
		{api.Schema{Types: make([]api.Type, 17)}, good, 3, b, "error 2 at 0"},
		{api.Schema{}, good, 3, b, "error 10 at 12"},
	} {
		for _, lines := range [][]string{nil, {"C 0"}, {"nothing"}} {
			if got := strings.Join(drive.Session(c.s, c.text, c.level, c.b, lines), "|"); got != c.wanted {
				t.Errorf("%q, level %d, %+v: %s, wanted %s", c.text, c.level, c.b, got, c.wanted)
			}
		}
	}
}
