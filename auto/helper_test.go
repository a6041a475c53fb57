package auto_test

import (
	"fmt"
	"testing"

	"auspice/api"
	"auspice/auto"
	"auspice/sample"
)

// asked is the plan of these branches with these conditions, none where the text is empty.
func asked(t *testing.T, branches, conditions string) api.Plan {
	t.Helper()
	if conditions != "" {
		conditions = " WHERE " + conditions
	}
	p, ok := sample.Planned("PATTERN " + branches + conditions + " STRATEGY ANY WITHIN 9")
	if !ok {
		t.Fatalf("too long: %s", conditions)
	}
	return p
}

// built is the automaton of a plan, which has one.
func built(t *testing.T, p api.Plan) api.Auto {
	t.Helper()
	a, err := auto.Build(p)
	if err != api.OK {
		t.Fatalf("Build of %+v: %d", p, err)
	}
	return a
}

// dump is all that a thing has, lists written out, empty ones alike.
func dump(x any) string {
	return fmt.Sprintf("%+v", x)
}

func wantAuto(t *testing.T, what string, got, wanted api.Auto) {
	t.Helper()
	if dump(got) != dump(wanted) {
		t.Errorf("%s:\n%+v, wanted\n%+v", what, got, wanted)
	}
}

func wantPlan(t *testing.T, what string, got, wanted api.Plan) {
	t.Helper()
	if dump(got) != dump(wanted) {
		t.Errorf("%s:\n%+v, wanted\n%+v", what, got, wanted)
	}
}

// told is a condition that is told apart from others by its number.
func told(n int64) []api.Node {
	return []api.Node{{Op: api.Const, Kind: api.Int, Value: sample.Int(n)}}
}
