package expr_test

import (
	"math/rand/v2"
	"strings"
	"testing"

	"auspice/api"
	"auspice/expr"
)

func of(op int, args ...api.Expr) api.Expr {
	return api.Expr{Op: op, Args: args}
}

func number(n int64) api.Expr {
	return api.Expr{Op: api.LitInt, N: n}
}

func decimal(n int64, scale int) api.Expr {
	return api.Expr{Op: api.LitReal, N: n, Scale: scale}
}

func truth(n int64) api.Expr {
	return api.Expr{Op: api.LitBool, N: n}
}

func symbol(name string) api.Expr {
	return api.Expr{Op: api.LitSym, Name: name}
}

func attr(name, field string) api.Expr {
	return gather(api.Attr, name, field)
}

func count(name string) api.Expr {
	return api.Expr{Op: api.Count, Name: name}
}

func gather(op int, name, field string) api.Expr {
	return api.Expr{Op: op, Name: name, Attr: field}
}

// placed is a node with its place.
func placed(at int, e api.Expr) api.Expr {
	e.At = at
	return e
}

// equal is Same, reckoned by recursion, with places.
func equal(a, b api.Expr) bool {
	if a.Op != b.Op || a.N != b.N || a.Scale != b.Scale || a.Name != b.Name || a.Attr != b.Attr || a.At != b.At || len(a.Args) != len(b.Args) {
		return false
	}
	for i := range a.Args {
		if !equal(a.Args[i], b.Args[i]) {
			return false
		}
	}
	return true
}

// unplaced is a copy without places.
func unplaced(e api.Expr) api.Expr {
	e.At = 0
	args := e.Args
	e.Args = nil
	for _, x := range args {
		e.Args = append(e.Args, unplaced(x))
	}
	return e
}

func size(e api.Expr) int {
	n := 1
	for _, x := range e.Args {
		n += size(x)
	}
	return n
}

// marks are how operators are written, by the chapter's table.
func marks() map[int]string {
	return map[int]string{
		api.OpOr: "OR", api.OpAnd: "AND", api.OpNot: "NOT",
		api.OpEq: "=", api.OpNe: "!=", api.OpLt: "<", api.OpLe: "<=", api.OpGt: ">", api.OpGe: ">=",
		api.OpAdd: "+", api.OpSub: "-", api.OpMul: "*", api.OpDiv: "/", api.OpMod: "%", api.OpNeg: "-",
		api.OpReal: "REAL", api.OpNan: "ISNAN",
		api.Count: "COUNT", api.First: "FIRST", api.Last: "LAST", api.Sum: "SUM", api.Min: "MIN", api.Max: "MAX", api.Mean: "MEAN",
	}
}

// operands is how many an operator has.
func operands(op int) int {
	switch {
	case op == api.OpNeg || op == api.OpNot || op == api.OpReal || op == api.OpNan:
		return 1
	case api.OpAdd <= op && op <= api.OpOr:
		return 2
	}
	return 0
}

// allBrackets writes a tree with each operand in brackets, whether it needs them or not.
func allBrackets(t *testing.T, e api.Expr) string {
	in := func(e api.Expr) string { return "(" + allBrackets(t, e) + ")" }
	switch m := marks()[e.Op]; operands(e.Op) {
	case 1:
		return m + in(e.Args[0])
	case 2:
		return in(e.Args[0]) + m + in(e.Args[1])
	}
	s, err := expr.Print(e)
	if err != api.OK {
		t.Fatalf("a leaf isn't printed: %v, %d", e, err)
	}
	return s
}

// leaves are of all sorts, with the edges of each.
func leaves() []api.Expr {
	long := strings.Repeat("z", api.MaxName)
	l := []api.Expr{
		number(0), number(7), number(1<<63 - 1),
		decimal(0, 1), decimal(5, 2), decimal(150, 2), decimal(99999999999999, 14), decimal(999999999999999, 1), decimal(0, 14),
		truth(0), truth(1), symbol("ann"), symbol(long), symbol("time"),
		attr("a", "x"), attr("b_1", "TIME"), attr(long, long), attr("Seq", "count"),
		count("b"), count(long),
	}
	for op := api.First; op <= api.Mean; op++ {
		l = append(l, gather(op, "b", "x"), gather(op, "c", "TIME"))
	}
	return l
}

// randomTree has at most so many nodes, and what nests in its text in full brackets nests at most so deep.
func randomTree(r *rand.Rand, most, deep int) api.Expr {
	all := leaves()
	if most < 2 || deep < 2 {
		return all[r.IntN(len(all))]
	}
	op := 1 + r.IntN(api.OpNan)
	if operands(op) == 1 {
		return of(op, randomTree(r, most-1, deep-2))
	}
	left := randomTree(r, r.IntN(most-1)+1, deep-1)
	return of(op, left, randomTree(r, most-1-size(left), deep-1))
}

func random() *rand.Rand {
	return rand.New(rand.NewPCG(6, 3))
}
