package fold_test

import (
	"fmt"
	"testing"

	"auspice/api"
	"auspice/fold"
	"auspice/plan"
	"auspice/query"
	"auspice/sample"
)

// node is a condition by Shop, that is asked of c: a is a One and b a Many ahead of it.
func node(t *testing.T, text string) api.Node {
	t.Helper()
	whole := "PATTERN SEQ(A a, B+ b, A c) WHERE NOT (" + text + ") OR c.b STRATEGY ANY WITHIN 9"
	q, at, err := query.Parse(whole)
	if err != api.OK {
		t.Fatalf("no query: %q: %d at %d", whole, err, at)
	}
	p, at, err := plan.Make(sample.Shop(), q)
	if err != api.OK {
		t.Fatalf("no plan: %q: %d at %d", whole, err, at)
	}
	return p.Branches[0].Parts[2].Guards[0].Args[0].Args[0]
}

func op(op, kind int, args ...api.Node) api.Node {
	return api.Node{Op: op, Kind: kind, Args: args}
}

func constant(v api.Value) api.Node {
	return api.Node{Op: api.Const, Kind: v.Kind, Value: v}
}

// never is a Const of that kind whose value is poison.
func never(kind int) api.Node {
	return api.Node{Op: api.Const, Kind: kind}
}

// dump is all that a node has, lists written out, empty ones alike.
func dump(x any) string {
	return fmt.Sprintf("%+v", x)
}

func wantNode(t *testing.T, what string, n, wanted api.Node) {
	t.Helper()
	if got := fold.Node(n); dump(got) != dump(wanted) {
		t.Errorf("%s: Node of %+v: %+v, wanted %+v", what, n, got, wanted)
	}
}
