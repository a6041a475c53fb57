package drive_test

import (
	"fmt"
	"slices"
	"strings"
	"testing"

	"auspice/api"
	"auspice/drive"
	"auspice/event"
	"auspice/load"
	"auspice/plan"
	"auspice/query"
	"auspice/sample"
)

// dump tells all that a thing has; empty lists are alike in it.
func dump(x any) string {
	return fmt.Sprintf("%+v", x)
}

// most are the greatest bounds that there may be.
func most() api.Bounds {
	return api.Bounds{Text: api.MaxText, Nodes: api.MaxNodes, States: api.MaxStates, Regs: api.MaxRegs, Runs: api.MaxLive, Cells: api.MaxLive}
}

// least are the smallest ones with which a query can be compiled.
func least() api.Bounds {
	return api.Bounds{Text: api.MaxText, Nodes: api.MaxNodes, States: api.MaxStates, Regs: 2, Runs: 1, Cells: 1}
}

// market is the schema of the document's examples.
func market() api.Schema {
	deal := []api.Field{{Name: "who", Kind: api.Sym}, {Name: "n", Kind: api.Int}}
	return api.Schema{Types: []api.Type{{Name: "Buy", Fields: deal}, {Name: "Sell", Fields: deal}, {Name: "Tick", Fields: []api.Field{{Name: "p", Kind: api.Real}}}}, Syms: []string{"ann", "bob"}}
}

// compiled is the image of a query that is accepted.
func compiled(t *testing.T, s api.Schema, text string, level int, b api.Bounds) []byte {
	t.Helper()
	made, at, err := drive.Compile(s, text, level, b)
	if at != 0 || err != api.OK || len(made) == 0 {
		t.Fatalf("%s, level %d, %+v: %d at %d, %d bytes", text, level, b, err, at, len(made))
	}
	return made
}

// built is the automaton of a query that is accepted.
func built(t *testing.T, s api.Schema, text string, level int) api.Auto {
	t.Helper()
	a, at, err := drive.Auto(s, text, level)
	if at != 0 || err != api.OK {
		t.Fatalf("%s, level %d: %d at %d", text, level, err, at)
	}
	return a
}

func loaded(t *testing.T, b []byte) api.Table {
	t.Helper()
	x, err := load.Load(b)
	if err != api.OK {
		t.Fatalf("no image that may be run: %d", err)
	}
	return x
}

// planned is what chapters 5 to 8 say of a text.
func planned(s api.Schema, text string) (api.Plan, int, api.Errno) {
	q, at, err := query.Parse(text)
	if err != api.OK {
		return api.Plan{}, at, err
	}
	return plan.Make(s, q)
}

// wantRefused holds the error that a call answers, and what stands beside it, against what is wanted.
func wantRefused[T any](t *testing.T, what string, beside T, at int, err api.Errno, wantedAt int, wanted api.Errno) {
	t.Helper()
	var zero T
	if dump(beside) != dump(zero) || at != wantedAt || err != wanted {
		t.Errorf("%s: %d at %d, wanted %d at %d, beside %+v", what, err, at, wanted, wantedAt, beside)
	}
}

// wantSession holds what is told of a query, at all levels, and with few registers and many, against lines with a stroke between each two.
func wantSession(t *testing.T, s api.Schema, text string, b api.Bounds, lines []string, wanted string) {
	t.Helper()
	for level := range 4 {
		for regs := 2; regs <= api.MaxRegs; regs += 7 {
			b.Regs = regs
			if got := strings.Join(drive.Session(s, text, level, b, lines), "|"); got != wanted {
				t.Errorf("%s over %q, level %d, %d registers: %s, wanted %s", text, lines, level, regs, got, wanted)
			}
		}
	}
}

// linesOf are the lines of events that are valid.
func linesOf(s api.Schema, script []api.Event) []string {
	l := []string{}
	for _, e := range script {
		l = append(l, event.Line(s, e))
	}
	return l
}

// matchLines are the lines of matches, and of an error, if there is one.
func matchLines(told []api.Match, at int, err api.Errno) []string {
	l := []string{}
	if len(told) > 0 {
		l = strings.Split(sample.Lines(told), "|")
	}
	if err != api.OK {
		l = append(l, fmt.Sprintf("error %d at %d", err, at))
	}
	return l
}

func wantLines(t *testing.T, what string, got, wanted []string) {
	t.Helper()
	if !slices.Equal(got, wanted) {
		t.Fatalf("%s: %q, wanted %q", what, got, wanted)
	}
}
