package plan_test

import (
	"fmt"
	"strings"
	"testing"

	"auspice/api"
	"auspice/plan"
	"auspice/query"
	"auspice/sample"
)

// market has attributes of all kinds, and two types without the one that is a key, or with one of another kind.
func market() api.Schema {
	return api.Schema{
		Types: []api.Type{
			{Name: "A", Fields: []api.Field{{Name: "k", Kind: api.Int}, {Name: "x", Kind: api.Int}, {Name: "r", Kind: api.Real}, {Name: "b", Kind: api.Bool}, {Name: "s", Kind: api.Sym}}},
			{Name: "B", Fields: []api.Field{{Name: "x", Kind: api.Real}, {Name: "k", Kind: api.Int}}},
			{Name: "C"},
			{Name: "D", Fields: []api.Field{{Name: "s", Kind: api.Sym}, {Name: "k", Kind: api.Real}}},
		},
		Syms: []string{"ann", "bob"},
	}
}

// dump is all that a thing has, lists written out, empty ones alike.
func dump(x any) string {
	return fmt.Sprintf("%+v", x)
}

// marked is a text in which ^ may stand ahead of a token: the text without it, and the token's place; 0 without it.
func marked(text string) (string, int) {
	ahead, behind, ok := strings.Cut(text, "^")
	if !ok {
		return text, 0
	}
	return ahead + behind, len(ahead)
}

func parsed(t *testing.T, text string) api.Query {
	t.Helper()
	q, at, err := query.Parse(text)
	if at != 0 || err != api.OK {
		t.Fatalf("no query: %q: %d at %d", text, err, at)
	}
	return q
}

// made is the plan of a query by market.
func made(t *testing.T, text string) api.Plan {
	t.Helper()
	p, at, err := plan.Make(market(), parsed(t, text))
	if at != 0 || err != api.OK {
		t.Fatalf("Make(%q): %d at %d", text, err, at)
	}
	return p
}

// wantFault: of a query, with ^ ahead of the faulty token, there is no plan by market.
func wantFault(t *testing.T, text string, wanted api.Errno) {
	t.Helper()
	text, wantedAt := marked(text)
	if p, at, err := plan.Make(market(), parsed(t, text)); dump(p) != dump(api.Plan{}) || at != wantedAt || err != wanted {
		t.Errorf("Make(%q): %v, %d at %d, wanted %d at %d", text, p, err, at, wanted, wantedAt)
	}
}

// where is a query of these branches with these conditions.
func where(branches, conditions string) string {
	return "PATTERN " + branches + " WHERE " + conditions + " STRATEGY ANY WITHIN 9"
}

func op(op, kind int, args ...api.Node) api.Node {
	return api.Node{Op: op, Kind: kind, Args: args}
}

func constant(v api.Value) api.Node {
	return api.Node{Op: api.Const, Kind: v.Kind, Value: v}
}

func number(n int64) api.Node { return constant(sample.Int(n)) }

func cur(attr, kind int) api.Node { return api.Node{Op: api.Cur, Kind: kind, Attr: attr} }

// from is a leaf that looks at a position.
func from(op, pos, attr, kind int) api.Node {
	return api.Node{Op: op, Kind: kind, Pos: pos, Attr: attr}
}

func count(pos int) api.Node { return from(api.Count, pos, 0, api.Int) }
