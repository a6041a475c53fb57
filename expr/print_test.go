package expr_test

import (
	"math"
	"strings"
	"testing"

	"auspice/api"
	"auspice/expr"
	"auspice/lex"
)

func wantPrint(t *testing.T, e api.Expr, wanted string) {
	t.Helper()
	if got, err := expr.Print(e); got != wanted || err != api.OK {
		t.Errorf("Print(%v): %q, %d, wanted %q", e, got, err, wanted)
	}
}

func wantNoPrint(t *testing.T, what string, e api.Expr, wanted api.Errno) {
	t.Helper()
	if got, err := expr.Print(e); got != "" || err != wanted {
		t.Errorf("%s: %q, %d, wanted the error %d", what, got, err, wanted)
	}
}

// P6.3: the blanks, and brackets just where the tree asks for them.
func TestPrint(t *testing.T) {
	for text, wanted := range map[string]string{
		"12":                  "12",
		"9223372036854775807": "9223372036854775807",
		"1.50":                "1.50",
		"0.05":                "0.05",
		"TRUE":                "TRUE",
		"((FALSE))":           "FALSE",
		"'ann'":               "'ann'",
		"a . x":               "a.x",
		"a.TIME":              "a.TIME",
		"COUNT ( b )":         "COUNT(b)",
		"FIRST( b.x )":        "FIRST(b.x)", "LAST(b .TIME)": "LAST(b.TIME)", "SUM(b. x)": "SUM(b.x)",
		"MIN(b.x )": "MIN(b.x)", "MAX( b.x)": "MAX(b.x)", "MEAN\n(b.x)": "MEAN(b.x)",
		"REAL ( (1) )": "REAL(1)", "ISNAN ( a.x+1.0 )": "ISNAN(a.x + 1.0)", "REAL(NOT(1))": "REAL(NOT 1)",
		"- 1": "-1", "- - 3": "--3", "-(-3)": "--3", "-(1+2)": "-(1 + 2)", "-(1*2)": "-(1 * 2)", "-1*2": "-1 * 2", "-(NOT 1)": "-(NOT 1)",
		"NOT(NOT TRUE)": "NOT NOT TRUE", "NOT(1=2)": "NOT 1 = 2", "(NOT 1)=2": "(NOT 1) = 2", "NOT(1 AND 2)": "NOT (1 AND 2)", "(NOT 1)AND 2": "NOT 1 AND 2", "NOT(1 OR 2)": "NOT (1 OR 2)",
		"1-(2-3)": "1 - (2 - 3)", "(1-2)-3": "1 - 2 - 3", "1+(2+3)": "1 + (2 + 3)", "1-(2*3)": "1 - 2 * 3", "(1-2)*3": "(1 - 2) * 3", "1*(2*3)": "1 * (2 * 3)", "(1%2)/3": "1 % 2 / 3", "1- -2": "1 - -2", "1*(-2)": "1 * -2",
		"1=(2=3)": "1 = (2 = 3)", "(1=2)=3": "(1 = 2) = 3", "(1<2)!=(3>=4)": "(1 < 2) != (3 >= 4)", "(1+2)<=(3*4)": "1 + 2 <= 3 * 4", "1=(NOT 2)": "1 = (NOT 2)", "1=(2 AND 3)": "1 = (2 AND 3)", "(1=2)+3>4": "(1 = 2) + 3 > 4",
		"1 OR(2 OR 3)": "1 OR (2 OR 3)", "(1 OR 2)OR 3": "1 OR 2 OR 3", "1 AND(2 AND 3)": "1 AND (2 AND 3)", "(1 OR 2)AND 3": "(1 OR 2) AND 3", "1 OR(2 AND 3)": "1 OR 2 AND 3", "1 AND(NOT 2)": "1 AND NOT 2", "1 OR(2=3)": "1 OR 2 = 3",
		"a.x+1<=2*COUNT(b)": "a.x + 1 <= 2 * COUNT(b)",
	} {
		e, _, err := expr.Parse(text)
		if err != api.OK {
			t.Errorf("%q isn't read: %d", text, err)
		}
		wantPrint(t, e, wanted)
	}
}

// P6.3: Parse of the text is the tree; no brackets may be left out; just the blanks that are asked for stand in it.
func TestPrintTrees(t *testing.T) {
	r := random()
	for range 4000 {
		e := randomTree(r, 1+r.IntN(30), api.MaxDeep)
		text, err := expr.Print(e)
		if err != api.OK {
			t.Fatalf("Print(%v): %d", e, err)
		}
		got, _, err := expr.Parse(text)
		if err != api.OK || !equal(unplaced(got), e) || !expr.Same(got, e) {
			t.Fatalf("%q is read as %v, %d, wanted %v", text, got, err, e)
		}
		wantTight(t, text, e)
		wantBlanks(t, text)
	}
}

// wantTight: without any pair of its brackets the text isn't the tree's.
func wantTight(t *testing.T, text string, e api.Expr) {
	t.Helper()
	open := []int{}
	for i, c := range text {
		switch c {
		case '(':
			open = append(open, i)
		case ')':
			from := open[len(open)-1]
			open = open[:len(open)-1]
			less := text[:from] + " " + text[from+1:i] + " " + text[i+1:]
			if got, _, err := expr.Parse(less); err == api.OK && expr.Same(got, e) {
				t.Fatalf("%q has brackets that it needn't have: %q", text, less)
			}
		}
	}
}

// wantBlanks: the blanks of a text are those behind NOT and about operators between two.
func wantBlanks(t *testing.T, text string) {
	t.Helper()
	l, _, _ := lex.Scan(text)
	wanted := ""
	for i, x := range l {
		s := lex.Spell(x)
		between := i > 0 && operandEnds(l[i-1])
		switch {
		case s == "NOT":
			s += " "
		case between && (s == "AND" || s == "OR" || x.Kind == api.TokSign && strings.Contains("!=<=>=+-*/%", s)):
			s = " " + s + " "
		}
		wanted += s
	}
	if text != wanted {
		t.Fatalf("%q, wanted %q", text, wanted)
	}
}

// operandEnds tells whether a token may be an operand's last one.
func operandEnds(x api.Token) bool {
	switch x.Kind {
	case api.TokSign:
		return x.Text == ")"
	case api.TokWord:
		return x.Text == "TRUE" || x.Text == "FALSE" || x.Text == "TIME"
	}
	return true
}

// P6.3: what each Op asks for: each leaf and operator with something more, less or other than it names.
func TestPrintForm(t *testing.T) {
	bad := map[string]api.Expr{
		"nothing": {}, "a Const": of(api.Const), "a Cur": of(api.Cur), "an Of": of(api.Of), "Op 18": of(18, number(1)), "Op 19": of(19, number(1), number(2)), "Op 32": gather(32, "a", "x"), "Op -1": of(-1), "the least Op": of(math.MinInt), "the greatest Op": of(math.MaxInt),
		"an Int below 0": number(-1), "the least Int": number(math.MinInt64),
		"a Real below 0": decimal(-1, 1), "a Real far below 0": decimal(math.MinInt64, 3), "a Real without a scale": decimal(15, 0), "a scale below 0": decimal(15, -1), "16 digits": decimal(1000000000000000, 1), "16 digits by the scale": decimal(1, 15), "0 of 16 digits": decimal(0, 15), "a great scale": decimal(1, math.MaxInt), "the least scale": decimal(1, math.MinInt), "19 digits": decimal(math.MaxInt64, 14),
		"a Bool of 2": truth(2), "a Bool of -1": truth(-1), "the greatest Bool": truth(math.MaxInt64),
	}
	for _, s := range []string{"", "_a", "1", "a b", " a", "a ", "a.x", "a'", "SEQ", "TIME", "ä", "a\n", "a)", "a) OR COUNT(b", "a.x + b", "\xff", strings.Repeat("a", api.MaxName+1), strings.Repeat("a", api.MaxText+1)} {
		bad["a symbol "+s] = symbol(s)
		bad["a name "+s] = attr(s, "x")
		bad["a count's name "+s] = count(s)
		for op := api.First; op <= api.Mean; op++ {
			bad[marks()[op]+" of "+s] = gather(op, s, "x")
		}
		if s != "TIME" {
			bad["a field "+s] = attr("a", s)
			bad["a sum's field "+s] = gather(api.Sum, "a", s)
		}
	}
	for what, e := range bad {
		wantNoPrint(t, what, e, api.ErrForm)
		wantNoPrint(t, what+", below", of(api.OpAnd, of(api.OpNot, truth(1)), of(api.OpEq, number(1), e)), api.ErrForm)
	}
}

// P6.3: what a node's Op doesn't name is zero; its place may be anything.
func TestPrintUnnamed(t *testing.T) {
	good := leaves()
	for op := api.OpAdd; op <= api.OpNan; op++ {
		args := []api.Expr{number(1), truth(1), attr("a", "x")}
		for n := range args {
			if n == operands(op) {
				good = append(good, of(op, args[:n]...))
			} else {
				wantNoPrint(t, "a wrong count of operands", of(op, args[:n]...), api.ErrForm)
			}
		}
		wantNoPrint(t, "three operands", of(op, args...), api.ErrForm)
	}
	for _, e := range good {
		for _, at := range []int{0, -1, 7, math.MinInt, math.MaxInt} {
			if got, err := expr.Print(placed(at, e)); got == "" || err != api.OK {
				t.Errorf("Print(%v): %d", e, err)
			}
		}
		for what, spoilt := range spoilt(e) {
			wantNoPrint(t, what, spoilt, api.ErrForm)
		}
	}
}

// spoilt are copies of a node, each with something that its Op doesn't name.
func spoilt(e api.Expr) map[string]api.Expr {
	m := map[string]api.Expr{}
	if e.Op != api.LitInt && e.Op != api.LitReal && e.Op != api.LitBool {
		x := e
		x.N = 1
		m["a number"] = x
	}
	if e.Op != api.LitReal {
		x := e
		x.Scale = 1
		m["a scale"] = x
	}
	if e.Op < api.LitSym {
		x := e
		x.Name = "a"
		m["a name"] = x
	}
	if e.Op < api.Attr || e.Op == api.Count {
		x := e
		x.Attr = "x"
		m["a field"] = x
	}
	if e.Op >= api.LitInt {
		x := e
		x.Args = []api.Expr{number(1)}
		m["an operand"] = x
	}
	return m
}

// row is a tree of so many nodes, an odd number, to the left.
func row(nodes int) api.Expr {
	e := number(1)
	for range nodes / 2 {
		e = of(api.OpAdd, e, number(1))
	}
	return e
}

// P6.3: the bound of the nodes, and of the text.
func TestPrintLong(t *testing.T) {
	wantPrint(t, row(199), strings.Repeat("1 + ", 99)+"1")
	wantPrint(t, of(api.OpNeg, row(199)), "-("+strings.Repeat("1 + ", 99)+"1)")
	wantNoPrint(t, "201 nodes", row(201), api.ErrLong)
	wantNoPrint(t, "201 nodes", of(api.OpNot, of(api.OpNeg, row(199))), api.ErrLong)
	wantNoPrint(t, "far too many nodes", row(100001), api.ErrLong)
	for _, bytes := range []int{api.MaxText - 1, api.MaxText} {
		e := wide(100, bytes)
		text, err := expr.Print(e)
		if len(text) != bytes || err != api.OK {
			t.Fatalf("%d bytes, wanted %d: %d", len(text), bytes, err)
		}
		if got, _, err := expr.Parse(text); err != api.OK || !expr.Same(got, e) {
			t.Errorf("isn't read back: %d", err)
		}
	}
	wantNoPrint(t, "a byte too long", wide(100, api.MaxText+1), api.ErrLong)
	wantNoPrint(t, "a text too long", wide(100, 5296), api.ErrLong)
}

// wide is a tree of so many fields whose text has so many bytes, as far as the fields' names go.
func wide(fields, bytes int) api.Expr {
	left := bytes - len("n.n OR ")*fields + len(" OR ")
	lengthen := func() string {
		more := min(left, api.MaxName-1)
		left -= more
		return "n" + strings.Repeat("n", more)
	}
	e := attr(lengthen(), lengthen())
	for range fields - 1 {
		e = of(api.OpOr, e, attr(lengthen(), lengthen()))
	}
	return e
}

// deep is e within so many of an operator.
func deep(op, times int, e api.Expr) api.Expr {
	for range times {
		e = of(op, e)
	}
	return e
}

// P6.3: the nest's bound, by what is written.
func TestPrintDeep(t *testing.T) {
	for _, op := range []int{api.OpNot, api.OpNeg, api.OpReal, api.OpNan} {
		if text, err := expr.Print(deep(op, api.MaxDeep, number(1))); text == "" || err != api.OK {
			t.Errorf("%d of %d: %d", api.MaxDeep, op, err)
		}
		wantNoPrint(t, "one more", deep(op, api.MaxDeep+1, number(1)), api.ErrDeep)
		wantNoPrint(t, "brackets within", deep(op, api.MaxDeep, of(api.OpMul, number(1), row(3))), api.ErrDeep)
		for _, e := range []api.Expr{count("b"), gather(api.First, "b", "x")} {
			if text, err := expr.Print(deep(op, api.MaxDeep, e)); text == "" || err != api.OK {
				t.Errorf("%d of %d about %v: %d", api.MaxDeep, op, e, err)
			}
		}
	}
	brackets := number(1)
	for range api.MaxDeep {
		brackets = of(api.OpSub, number(1), brackets)
	}
	wantPrint(t, brackets, strings.Repeat("1 - (", api.MaxDeep-1)+"1 - 1"+strings.Repeat(")", api.MaxDeep-1))
	wantPrint(t, of(api.OpSub, number(2), brackets), "2 - ("+strings.Repeat("1 - (", api.MaxDeep-1)+"1 - 1"+strings.Repeat(")", api.MaxDeep))
	wantNoPrint(t, "one bracket more", of(api.OpSub, number(3), of(api.OpSub, number(2), brackets)), api.ErrDeep)
	wantNoPrint(t, "a NOT and brackets each", deep(api.OpNot, 1, of(api.OpAnd, number(1), of(api.OpSub, number(2), brackets))), api.ErrDeep)
}

// P6.3: the nest is that by which the text is read.
func TestPrintNest(t *testing.T) {
	r := random()
	for range 1000 {
		e := randomTree(r, 1+r.IntN(30), api.MaxDeep)
		text, _ := expr.Print(e)
		for more := range api.MaxDeep + 1 {
			_, _, read := expr.Parse(nested(0, more, text))
			if _, printed := expr.Print(deep(api.OpReal, more, e)); printed != read || read != api.OK && read != api.ErrDeep {
				t.Fatalf("%q within %d: read %d, printed %d", text, more, read, printed)
			}
		}
	}
}

// P6.3: of several errors the one that the chapter names first.
func TestPrintOrder(t *testing.T) {
	tooDeep := deep(api.OpNot, api.MaxDeep+1, number(1))
	wantNoPrint(t, "too deep alone", deep(api.OpNot, api.MaxDeep+1, wide(84, 3000)), api.ErrDeep)
	wantNoPrint(t, "too many and too deep", of(api.OpAnd, tooDeep, row(201)), api.ErrLong)
	wantNoPrint(t, "too long and too deep", deep(api.OpNot, api.MaxDeep+1, wide(84, api.MaxText)), api.ErrLong)
	wantNoPrint(t, "too many nodes, one of no form", of(api.OpAnd, row(1001), number(-1)), api.ErrForm)
	wantNoPrint(t, "too many nodes, the last of no form", of(api.OpAnd, number(-1), row(1001)), api.ErrForm)
	wantNoPrint(t, "too deep, of no form", deep(api.OpNot, 1000, truth(2)), api.ErrForm)
}
