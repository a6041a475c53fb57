package rules_test

import (
	"fmt"
	"strings"
	"testing"

	"auspice/api"
	"auspice/match"
	"auspice/model"
	"auspice/rules"
	"auspice/sample"
)

// call is one of the layer's, by its name.
type call struct {
	name    string
	rewrite func(p api.Plan) api.Plan
}

func calls() []call {
	return []call{{"Fold", rules.Fold}, {"Clean", rules.Clean}, {"Move", rules.Move}, {"Tighten", rules.Tighten}, {"Once", rules.Once}, {"Apply", rules.Apply}}
}

// asked is the plan of these branches with these conditions, none where the text is empty.
func asked(t *testing.T, branches, conditions, strategy string, window int) api.Plan {
	t.Helper()
	if conditions != "" {
		conditions = " WHERE " + conditions
	}
	p, ok := sample.Planned(fmt.Sprintf("PATTERN %s%s STRATEGY %s WITHIN %d", branches, conditions, strategy, window))
	if !ok {
		t.Fatalf("too long: %s", conditions)
	}
	return p
}

// anyOf is asked for under ANY within 9.
func anyOf(t *testing.T, branches, conditions string) api.Plan {
	t.Helper()
	return asked(t, branches, conditions, "ANY", 9)
}

// dump is all that a thing has, lists written out, empty ones alike.
func dump(x any) string {
	return fmt.Sprintf("%+v", x)
}

func wantPlan(t *testing.T, what string, got, wanted api.Plan) {
	t.Helper()
	if dump(got) != dump(wanted) {
		t.Errorf("%s:\n%+v, wanted\n%+v", what, got, wanted)
	}
}

// without leaves out a branch.
func without(p api.Plan, b int) api.Plan {
	p.Branches = append(append([]api.Branch{}, p.Branches[:b]...), p.Branches[b+1:]...)
	return p
}

// told are the lines of a plan's matches.
func told(t *testing.T, p api.Plan, script []api.Event) string {
	t.Helper()
	found, at, err := model.Matches(sample.Shop(), p, script)
	if at != 0 || err != api.OK {
		t.Fatalf("Matches: %d at %d", err, at)
	}
	lines := []string{}
	for _, m := range found {
		lines = append(lines, match.Line(m))
	}
	return strings.Join(lines, "|")
}

func op(op, kind int, args ...api.Node) api.Node {
	return api.Node{Op: op, Kind: kind, Args: args}
}

func constant(v api.Value) api.Node {
	return api.Node{Op: api.Const, Kind: v.Kind, Value: v}
}

var (
	yes   = constant(sample.Bool(1))
	no    = constant(sample.Bool(0))
	never = api.Node{Op: api.Const, Kind: api.Bool} // poison
)
