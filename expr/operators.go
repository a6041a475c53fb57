package expr

import "auspice/api"

// How operators bind, the loosest first.
const (
	bindOr = 1 + iota
	bindAnd
	bindNot
	bindCompare
	bindSum
	bindProduct
	bindMinus
	bindLeaf

	loosest = bindOr
)

// infix is an operator between its two operands.
type infix struct {
	op    int
	mark  string
	binds int
}

var infixes = [...]infix{
	{api.OpOr, "OR", bindOr},
	{api.OpAnd, "AND", bindAnd},
	{api.OpEq, "=", bindCompare},
	{api.OpNe, "!=", bindCompare},
	{api.OpLt, "<", bindCompare},
	{api.OpLe, "<=", bindCompare},
	{api.OpGt, ">", bindCompare},
	{api.OpGe, ">=", bindCompare},
	{api.OpAdd, "+", bindSum},
	{api.OpSub, "-", bindSum},
	{api.OpMul, "*", bindProduct},
	{api.OpDiv, "/", bindProduct},
	{api.OpMod, "%", bindProduct},
}

// left is how its left operand binds at least: a comparison's isn't a comparison, all others stand in rows.
func (o infix) left() int {
	if o.binds == bindCompare {
		return o.binds + 1
	}
	return o.binds
}

// right is how its right operand binds at least.
func (o infix) right() int {
	return o.binds + 1
}

func infixOfMark(mark string) (infix, bool) {
	for _, o := range infixes {
		if o.mark == mark {
			return o, true
		}
	}
	return infix{}, false
}

func infixOf(op int) (infix, bool) {
	for _, o := range infixes {
		if o.op == op {
			return o, true
		}
	}
	return infix{}, false
}

// prefix is an operator ahead of its one operand, with what is written between them and behind.
type prefix struct {
	op      int
	mark    string
	binds   int
	operand int // how its operand binds at least
	between string
	behind  string
}

var prefixes = [...]prefix{
	{api.OpNot, "NOT", bindNot, bindNot, " ", ""},
	{api.OpNeg, "-", bindMinus, bindMinus, "", ""},
	{api.OpReal, "REAL", bindLeaf, loosest, "(", ")"},
	{api.OpNan, "ISNAN", bindLeaf, loosest, "(", ")"},
}

// bracketed tells whether brackets of the operator's own stand around its operand.
func (o prefix) bracketed() bool {
	return o.behind != ""
}

func prefixOfMark(mark string) (prefix, bool) {
	for _, o := range prefixes {
		if o.mark == mark {
			return o, true
		}
	}
	return prefix{}, false
}

func prefixOf(op int) (prefix, bool) {
	for _, o := range prefixes {
		if o.op == op {
			return o, true
		}
	}
	return prefix{}, false
}

const (
	markYes   = "TRUE"
	markNo    = "FALSE"
	markTime  = "TIME"
	markCount = "COUNT"
)

// gather is what is made of a field of many events.
type gather struct {
	op   int
	mark string
}

var gathers = [...]gather{
	{api.First, "FIRST"},
	{api.Last, "LAST"},
	{api.Sum, "SUM"},
	{api.Min, "MIN"},
	{api.Max, "MAX"},
	{api.Mean, "MEAN"},
}

func gatherOfMark(mark string) (int, bool) {
	for _, g := range gathers {
		if g.mark == mark {
			return g.op, true
		}
	}
	return 0, false
}

func gatherMark(op int) string {
	for _, g := range gathers {
		if g.op == op {
			return g.mark
		}
	}
	return ""
}
