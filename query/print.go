package query

import (
	"slices"
	"strconv"
	"strings"

	"auspice/api"
	"auspice/expr"
	"auspice/lex"
)

func ofForm(q api.Query) bool {
	return len(q.Branches) > 0 && !slices.ContainsFunc(q.Branches, func(l []api.Item) bool {
		return len(l) == 0 || slices.ContainsFunc(l, badItem)
	}) &&
		!slices.ContainsFunc(q.Where, badCondition) &&
		q.Strategy >= api.Strict && q.Strategy <= api.Any &&
		q.Window >= 0 && q.Window <= api.MaxTime &&
		(q.Key == "" || isName(q.Key))
}

func badItem(i api.Item) bool {
	return i.Form < api.One || i.Form > api.Not || !isName(i.Type) || !isName(i.Name)
}

func badCondition(c api.Expr) bool {
	_, err := expr.Print(c)
	return c.Op == api.OpAnd || err == api.ErrForm
}

// isName has the text read: it is a name just where it comes back as one.
func isName(s string) bool {
	l, _, err := lex.Scan(s)
	return err == api.OK && l[0].Kind == api.TokName && l[0].Text == s
}

// tooMany tells whether a query passes a bound other than its text's.
func tooMany(q api.Query) bool {
	return len(q.Branches) > api.MaxBranches ||
		slices.ContainsFunc(q.Branches, func(l []api.Item) bool { return len(l) > api.MaxItems }) ||
		Nodes(q) > api.MaxNodes
}

// textAhead is what stands ahead of the conditions.
func textAhead(q api.Query) string {
	branches := []string{}
	for _, l := range q.Branches {
		items := []string{}
		for _, i := range l {
			items = append(items, itemText(i))
		}
		branches = append(branches, "SEQ("+strings.Join(items, markItems+" ")+")")
	}
	return "PATTERN " + strings.Join(branches, " "+markBranches+" ")
}

func itemText(i api.Item) string {
	switch i.Form {
	case api.Many:
		return i.Type + markMany + " " + i.Name
	case api.Not:
		return markNot + i.Type + " " + i.Name
	}
	return i.Type + " " + i.Name
}

// textBehind is what stands behind the conditions.
func textBehind(q api.Query) string {
	text := " STRATEGY " + strategies[q.Strategy] + " WITHIN " + strconv.FormatInt(q.Window, 10)
	if q.Key != "" {
		text += " PARTITION BY " + q.Key
	}
	return text
}

// whereText is the text of the conditions, and its length; beside an error too, since the whole may be too long where the conditions alone are only too deep.
func whereText(where []api.Expr) (string, int, api.Errno) {
	if len(where) == 0 {
		return "", 0, api.OK
	}
	const ahead = " WHERE "
	// AND stands to the left here, so layer 6 writes its operands as they are asked for: an OpOr in brackets, others not.
	e := where[0]
	for _, c := range where[1:] {
		e = api.Expr{Op: api.OpAnd, Args: []api.Expr{e, c}}
	}
	text, err := expr.Print(e)
	if err != api.OK {
		return "", len(ahead) + length(e), err
	}
	return ahead + text, len(ahead) + len(text), api.OK
}

// length is how long the text of a tree is, be it too deep to be printed: each operator is printed alone, with operands that bind as its own do.
func length(e api.Expr) int {
	bytes, alone := 0, e
	alone.Args = nil
	for _, arg := range e.Args {
		short := shortened(arg)
		alone.Args = append(alone.Args, short)
		bytes += length(arg) - printed(short)
	}
	return bytes + printed(alone)
}

// shortened is an operator with the least operands.
func shortened(e api.Expr) api.Expr {
	args := []api.Expr{}
	for range e.Args {
		args = append(args, api.Expr{Op: api.LitBool})
	}
	e.Args = args
	return e
}

func printed(e api.Expr) int {
	text, _ := expr.Print(e)
	return len(text)
}
