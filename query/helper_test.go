package query_test

import (
	"fmt"
	"math/rand/v2"
	"slices"
	"strings"
	"testing"

	"auspice/api"
	"auspice/expr"
	"auspice/query"
)

// marked is a text in which ^ may stand ahead of a token: the text without it, and the token's place; 0 without it.
func marked(text string) (string, int) {
	ahead, behind, ok := strings.Cut(text, "^")
	if !ok {
		return text, 0
	}
	text = ahead + behind
	return text, len(text) - len(strings.TrimLeft(behind, " "))
}

// dump is all that a thing has, lists written out, empty ones alike.
func dump(x any) string {
	return fmt.Sprintf("%+v", x)
}

func parsed(t *testing.T, text string) api.Query {
	t.Helper()
	q, at, err := query.Parse(text)
	if at != 0 || err != api.OK {
		t.Fatalf("Parse(%q): %d at %d", text, err, at)
	}
	return q
}

func condition(t *testing.T, text string) api.Expr {
	t.Helper()
	e, at, err := expr.Parse(text)
	if err != api.OK {
		t.Fatalf("no condition: %q: %d at %d", text, err, at)
	}
	return e
}

// wantFault: a text, with ^ ahead of the faulty token, isn't read.
func wantFault(t *testing.T, text string, wanted api.Errno) {
	t.Helper()
	text, wantedAt := marked(text)
	if q, at, err := query.Parse(text); dump(q) != dump(api.Query{}) || at != wantedAt || err != wanted {
		t.Errorf("Parse(%q): %v, %d at %d, wanted %d at %d", text, q, err, at, wanted, wantedAt)
	}
}

func wantPrint(t *testing.T, q api.Query, wanted string) {
	t.Helper()
	if got, err := query.Print(q); got != wanted || err != api.OK {
		t.Errorf("Print(%v): %q, %d, wanted %q", q, got, err, wanted)
	}
}

func wantNoPrint(t *testing.T, what string, q api.Query, wanted api.Errno) {
	t.Helper()
	if got, err := query.Print(q); got != "" || err != wanted {
		t.Errorf("%s: %q, %d, wanted the error %d", what, got, err, wanted)
	}
}

// small is a query without conditions and key.
func small() api.Query {
	return api.Query{Branches: [][]api.Item{{{Form: api.One, Type: "A", Name: "a"}}}, Strategy: api.Any, Window: 5}
}

// copied is a copy that shares no list.
func copied(q api.Query) api.Query {
	q.Branches = slices.Clone(q.Branches)
	for i, l := range q.Branches {
		q.Branches[i] = slices.Clone(l)
	}
	q.Where = copiedTrees(q.Where)
	return q
}

func copiedTrees(l []api.Expr) []api.Expr {
	l = slices.Clone(l)
	for i := range l {
		l[i].Args = copiedTrees(l[i].Args)
	}
	return l
}

// moved is a copy with all places changed.
func moved(q api.Query) api.Query {
	q = copied(q)
	for _, l := range q.Branches {
		for i := range l {
			l[i].At += 1 + 3*i
		}
	}
	q.KeyAt -= 7
	moveTrees(q.Where)
	return q
}

func moveTrees(l []api.Expr) {
	for i := range l {
		l[i].At = 5 - 2*l[i].At
		moveTrees(l[i].Args)
	}
}

func of(op int, args ...api.Expr) api.Expr {
	return api.Expr{Op: op, Args: args}
}

// deep is e within so many of an operator with one operand.
func deep(op, times int, e api.Expr) api.Expr {
	for range times {
		e = of(op, e)
	}
	return e
}

// row is the text of a sum of so many nodes, an odd number.
func row(nodes int) string {
	return strings.Repeat("1 + ", nodes/2) + "1"
}

// filler is a condition of a text of so many bytes, from 3 on, and of as few nodes as can be.
func filler(bytes int) api.Expr {
	const more = len(" + ")
	e := api.Expr{}
	for left := bytes; left > 0; left -= more {
		size := min(left, 2*api.MaxName+1)
		if rest := left - size; rest > 0 && rest < more+3 {
			size -= more + 3
		}
		name := min(size-2, api.MaxName)
		leaf := api.Expr{Op: api.Attr, Name: strings.Repeat("n", name), Attr: strings.Repeat("x", size-1-name)}
		left -= size
		if e.Op == 0 {
			e = leaf
		} else {
			e = of(api.OpAdd, e, leaf)
		}
	}
	return e
}

// randomText is an expression with each operand in brackets, so that nothing is told by how operators bind; at most so many operators stand one in another.
func randomText(r *rand.Rand, most int) string {
	leaves := strings.Fields("1 0.5 TRUE 'ann' a.x b.TIME COUNT(b) MAX(b.x)")
	binary := strings.Fields("OR OR OR AND AND = != < <= > >= + - * / %")
	unary := strings.Fields("NOT - REAL ISNAN")
	if most == 0 || r.IntN(5) == 0 {
		return leaves[r.IntN(len(leaves))]
	}
	operand := "(" + randomText(r, most-1) + ")"
	if r.IntN(3) == 0 {
		return unary[r.IntN(len(unary))] + operand
	}
	return operand + binary[r.IntN(len(binary))] + "(" + randomText(r, most-1) + ")"
}

func random() *rand.Rand {
	return rand.New(rand.NewPCG(7, 3))
}
