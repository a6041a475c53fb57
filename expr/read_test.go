package expr_test

import (
	"math"
	"slices"
	"strings"
	"testing"
	"unsafe"

	"auspice/api"
	"auspice/expr"
	"auspice/lex"
)

// P6.1, P6.2: each row of the chapter's table, with places.
func TestParseNodes(t *testing.T) {
	for text, wanted := range map[string]api.Expr{
		"12":                   number(12),
		" 9223372036854775807": placed(1, number(math.MaxInt64)),
		"1.50":                 decimal(150, 2),
		"TRUE":                 truth(1),
		"FALSE":                truth(0),
		"'ann'":                symbol("ann"),
		" a.x":                 placed(1, attr("a", "x")),
		"a . TIME":             attr("a", "TIME"),
		"COUNT(b)":             count("b"),
		"COUNT ( b )":          count("b"),
		"FIRST(b.x)":           gather(api.First, "b", "x"),
		"LAST(b.x)":            gather(api.Last, "b", "x"),
		"SUM(b.x)":             gather(api.Sum, "b", "x"),
		"MIN(b.TIME)":          gather(api.Min, "b", "TIME"),
		"MAX(b.x)":             gather(api.Max, "b", "x"),
		"MEAN ( b . x )":       gather(api.Mean, "b", "x"),
		"REAL(1)":              of(api.OpReal, placed(5, number(1))),
		"ISNAN ( 1.0 )":        of(api.OpNan, placed(8, decimal(10, 1))),
		"-1":                   of(api.OpNeg, placed(1, number(1))),
		"--3":                  of(api.OpNeg, placed(1, of(api.OpNeg, placed(2, number(3))))),
		"NOT NOT TRUE":         of(api.OpNot, placed(4, of(api.OpNot, placed(8, truth(1))))),
		"1+2":                  placed(1, of(api.OpAdd, number(1), placed(2, number(2)))),
		"1-2":                  placed(1, of(api.OpSub, number(1), placed(2, number(2)))),
		"1*2":                  placed(1, of(api.OpMul, number(1), placed(2, number(2)))),
		"1/2":                  placed(1, of(api.OpDiv, number(1), placed(2, number(2)))),
		"1%2":                  placed(1, of(api.OpMod, number(1), placed(2, number(2)))),
		"1=2":                  placed(1, of(api.OpEq, number(1), placed(2, number(2)))),
		"1!=2":                 placed(1, of(api.OpNe, number(1), placed(3, number(2)))),
		"1<2":                  placed(1, of(api.OpLt, number(1), placed(2, number(2)))),
		"1<=2":                 placed(1, of(api.OpLe, number(1), placed(3, number(2)))),
		"1>2":                  placed(1, of(api.OpGt, number(1), placed(2, number(2)))),
		"1>=2":                 placed(1, of(api.OpGe, number(1), placed(3, number(2)))),
		"1 AND 2":              placed(2, of(api.OpAnd, number(1), placed(6, number(2)))),
		"1 OR 2":               placed(2, of(api.OpOr, number(1), placed(5, number(2)))),
		"((1))":                placed(2, number(1)),
		"(1)+(2)":              placed(3, of(api.OpAdd, placed(1, number(1)), placed(5, number(2)))),
		"a.x+1<=2*COUNT(b)": placed(5, of(api.OpLe,
			placed(3, of(api.OpAdd, attr("a", "x"), placed(4, number(1)))),
			placed(8, of(api.OpMul, placed(7, number(2)), placed(9, count("b")))))),
	} {
		got, at, err := expr.Parse(text)
		if !equal(got, wanted) || at != 0 || err != api.OK {
			t.Errorf("Parse(%q): %v, %d, %d, wanted %v", text, got, at, err, wanted)
		}
	}
}

// P6.1: which operand is whose, told by brackets.
func TestParseBinding(t *testing.T) {
	for text, inBrackets := range map[string]string{
		"1 OR 2 OR 3":                        "(1 OR 2) OR 3",
		"1 OR 2 AND 3":                       "1 OR (2 AND 3)",
		"1 AND 2 OR 3":                       "(1 AND 2) OR 3",
		"1 AND 2 AND 3":                      "(1 AND 2) AND 3",
		"NOT 1 AND 2":                        "(NOT 1) AND 2",
		"NOT 1 OR NOT 2 AND 3":               "(NOT 1) OR ((NOT 2) AND 3)",
		"1 AND NOT 2 OR 3":                   "(1 AND (NOT 2)) OR 3",
		"NOT a.x = b.x":                      "NOT (a.x = b.x)",
		"NOT NOT 1 = 2 AND 3":                "(NOT (NOT (1 = 2))) AND 3",
		"1 + 2 = 3 * 4":                      "(1 + 2) = (3 * 4)",
		"1 = 2 AND 3 < 4":                    "(1 = 2) AND (3 < 4)",
		"1 - 2 - 3":                          "(1 - 2) - 3",
		"1 - 2 + 3":                          "(1 - 2) + 3",
		"1 + 2 * 3 - 4":                      "(1 + (2 * 3)) - 4",
		"1 / 2 % 3 * 4":                      "((1 / 2) % 3) * 4",
		"- 1 * 2":                            "(-1) * 2",
		"1 * - 2 - - 3":                      "(1 * (-2)) - (-3)",
		"- - 1 + 2":                          "(-(-1)) + 2",
		"-a.x < -2":                          "(-(a.x)) < (-2)",
		"REAL(1 OR 2) * 3":                   "(REAL(1 OR 2)) * 3",
		"-REAL(1) + 2.0 < 3.5 OR ISNAN(0.5)": "(((-(REAL(1))) + 2.0) < 3.5) OR (ISNAN(0.5))",
	} {
		a, _, errA := expr.Parse(text)
		b, _, errB := expr.Parse(inBrackets)
		if !equal(unplaced(a), unplaced(b)) || errA != api.OK || errB != api.OK {
			t.Errorf("%q isn't %q", text, inBrackets)
		}
	}
}

func wantError(t *testing.T, text string, wantedAt int, wanted api.Errno) {
	t.Helper()
	if e, at, err := expr.Parse(text); !equal(e, api.Expr{}) || at != wantedAt || err != wanted {
		t.Errorf("Parse(%q): %v, %d, %d, wanted the error %d at %d", text, e, at, err, wanted, wantedAt)
	}
}

// P6.2: the first token that can't stand where it does.
func TestParseSyntax(t *testing.T) {
	for text, at := range map[string]int{
		"": 0, "  ": 2, "a": 1, "a.": 2, "a. ": 3, "a.1": 2, "a.COUNT": 2, "a.'x'": 2, "a + 1": 2, ".x": 0, "a.x.y": 3, "a..x": 2,
		"a.x = b.x = c.x": 10, "1 < 2 <= 3": 6, "(1 = 2 = 3)": 7, "NOT 1 = 2 != 3": 10,
		"1 +": 3, "1 + ": 4, "1 + + 2": 4, "+ 1": 0, "1 2": 2, "1 (2)": 2, "* 1": 0, "1 * / 2": 4,
		"NOT": 3, "1 + NOT 2": 4, "1 = NOT 2": 4, "- NOT 1": 2, "1 * NOT 2": 4, "1 NOT 2": 2, "1 AND OR 2": 6, "AND 1": 0,
		"(": 1, "()": 1, "(1": 2, "1)": 1, "(1))": 3, "(1 OR)": 5,
		"REAL": 4, "REAL 1": 5, "REAL()": 5, "REAL(1": 6, "REAL(1, 2)": 6, "ISNAN(": 6, "ISNAN -1": 6,
		"COUNT": 5, "COUNT b": 6, "COUNT()": 6, "COUNT(b.x)": 7, "COUNT(1)": 6, "COUNT(SEQ)": 6, "COUNT((b))": 6, "COUNT(b": 7,
		"FIRST(b)": 7, "FIRST(b.)": 8, "FIRST(b.x": 9, "LAST(.x)": 5, "SUM(b.x.y)": 7, "MIN b.x": 4, "MAX(b.x + 1)": 8, "MEAN(1)": 5, "MEAN(b.TRUE)": 7,
		"TIME": 0, "SEQ": 0, "1 WHERE": 2, "1 ! 2": 2, "!1": 0, "1 | 2": 2, "1, 2": 1,
	} {
		wantError(t, text, at, api.ErrSyntax)
	}
}

// P6.2: Scan's error ahead of all others.
func TestParseScan(t *testing.T) {
	wantError(t, "1 + ) ~", 6, api.ErrToken)
	wantError(t, strings.Repeat("(", 40)+"01", 40, api.ErrToken)
	wantError(t, "1 + "+strings.Repeat(" ", api.MaxText), 0, api.ErrLong)
	wantError(t, "~"+strings.Repeat(" ", api.MaxText), 0, api.ErrLong)
	wantError(t, "a.x +"+strings.Repeat(" ", api.MaxText-5), api.MaxText, api.ErrSyntax)
}

// nests are what nests, with what closes it.
var nests = [][2]string{{"(", ")"}, {"NOT ", ""}, {"-", ""}, {"REAL(", ")"}, {"ISNAN(", ")"}}

// nested is a text within so many that nest: the outermost ones, that may stand ahead of all, are those of the kind ahead.
func nested(kind, times int, text string) string {
	return strings.Repeat(nests[kind][0], times) + text + strings.Repeat(nests[kind][1], times)
}

// P6.1: the nest's bound, at what opens one more.
func TestParseDeep(t *testing.T) {
	for outer := range nests {
		for inner := range nests {
			if outer == 2 && inner == 1 { // - NOT isn't written
				continue
			}
			text := nested(outer, api.MaxDeep-1, nested(inner, 1, "1"))
			if _, at, err := expr.Parse(text); at != 0 || err != api.OK {
				t.Errorf("%q: %d at %d", text, err, at)
			}
			wantError(t, nested(outer, api.MaxDeep, nested(inner, 1, "1")), api.MaxDeep*len(nests[outer][0]), api.ErrDeep)
		}
		for _, leaf := range []string{"COUNT(b)", "FIRST(b.x)", "a.x", "'ann'", "1 - 2", "1 - 2 = 3 OR a.x < 5"} {
			text := nested(outer, api.MaxDeep, leaf)
			if _, at, err := expr.Parse(text); at != 0 || err != api.OK {
				t.Errorf("%q: %d at %d", text, err, at)
			}
		}
	}
}

// P6.1: what is closed doesn't count; and which error is the first one.
func TestParseDeepEdges(t *testing.T) {
	full := nested(0, api.MaxDeep, "1")
	for _, text := range []string{full + " + " + full, "1 = " + full + " AND (" + full[1:len(full)-1] + ")", strings.Repeat("-", api.MaxDeep) + "1 - -1", nested(1, api.MaxDeep, "1") + " AND NOT 1", nested(0, api.MaxDeep-1, "-1 - -2 * -3 + (4) - REAL(5)")} {
		if _, at, err := expr.Parse(text); at != 0 || err != api.OK {
			t.Errorf("%q: %d at %d", text, err, at)
		}
	}
	open := strings.Repeat("(", api.MaxDeep)
	wantError(t, open+"(", api.MaxDeep, api.ErrDeep)
	wantError(t, open+")", api.MaxDeep, api.ErrSyntax)
	wantError(t, open+"REAL", api.MaxDeep, api.ErrDeep)
	wantError(t, open+"1 + NOT 1", api.MaxDeep+4, api.ErrSyntax)
	wantError(t, open+"1 + -1", api.MaxDeep+4, api.ErrDeep)
	wantError(t, open+"1 (", api.MaxDeep+2, api.ErrSyntax)
	wantError(t, "1 1 "+open+"(", 2, api.ErrSyntax)
	wantError(t, nested(0, 2000, ""), api.MaxDeep, api.ErrDeep)
}

// P6.2: the bound of the nodes, behind all other errors; Read knows none.
func TestParseLong(t *testing.T) {
	row := func(nodes int) string { return strings.Repeat("1+", nodes/2) + "1" }
	for text, nodes := range map[string]int{row(199): 199, "-" + row(199): 200, "-(" + row(199) + ")": 200} {
		if e, at, err := expr.Parse(text); size(e) != nodes || at != 0 || err != api.OK {
			t.Errorf("%d nodes: %d at %d", nodes, err, at)
		}
	}
	for _, text := range []string{row(201), "--" + row(199), "(" + row(201) + ")", row(3999)} {
		wantError(t, text, 0, api.ErrLong)
		wantError(t, text[:len(text)-1], len(text)-1, api.ErrSyntax)
	}
	wantError(t, row(201)+" 1", 202, api.ErrSyntax)
	l, _, _ := lex.Scan(row(3999))
	if e, next, at, err := expr.Read(l, 0); size(e) != 3999 || next != 3999 || at != 0 || err != api.OK {
		t.Errorf("a long row: next %d, %d at %d", next, err, at)
	}
}

// P6.1: from any place on, and as long as can be.
func TestRead(t *testing.T) {
	text := "PATTERN SEQ(A a) WHERE a.x = 1 AND NOT b.y STRATEGY NEXT"
	l, _, _ := lex.Scan(text)
	wanted := placed(31, of(api.OpAnd, placed(27, of(api.OpEq, placed(23, attr("a", "x")), placed(29, number(1)))), placed(35, of(api.OpNot, placed(39, attr("b", "y"))))))
	if e, next, at, err := expr.Read(l, 7); !equal(e, wanted) || next != 17 || at != 0 || err != api.OK {
		t.Errorf("%v, %d, %d, %d", e, next, at, err)
	}
	for from, wantedAt := range map[int]int{0: 0, 1: 8, 2: 14, 3: 14, 4: 15, 5: 15, 6: 17, 8: 24, 12: 31, 17: 43, 19: len(text)} {
		if e, next, at, err := expr.Read(l, from); !equal(e, api.Expr{}) || next != 0 || at != wantedAt || err != api.ErrSyntax {
			t.Errorf("from %d: %v, %d, %d, %d, wanted ErrSyntax at %d", from, e, next, at, err, wantedAt)
		}
	}
	for _, from := range []int{-1, len(l), math.MinInt, math.MaxInt} {
		if e, next, at, err := expr.Read(l, from); !equal(e, api.Expr{}) || next != 0 || at != 0 || err != api.ErrArg {
			t.Errorf("from %d: %v, %d, %d, %d", from, e, next, at, err)
		}
	}
	if _, _, _, err := expr.Read(nil, 0); err != api.ErrArg {
		t.Errorf("of none: %d", err)
	}
}

// P1: tokens that no text has, without an end, and more than a text has.
func TestReadOdd(t *testing.T) {
	texts := append(tokens(), "", "\xff", "PATTERN")
	r := random()
	for range 20000 {
		l := []api.Token{}
		for range r.IntN(8) {
			l = append(l, api.Token{Kind: r.IntN(9) - 1, Text: texts[r.IntN(len(texts))], N: int64(r.Uint64()), Scale: r.IntN(40) - 20, At: r.IntN(9) - 4})
		}
		for from := -1; from <= len(l)+1; from++ {
			expr.Read(l, from)
		}
	}
	one, plus := api.Token{Kind: api.TokInt, N: 1}, api.Token{Kind: api.TokSign, Text: "+"}
	for _, l := range [][]api.Token{slices.Repeat([]api.Token{one, plus}, 300000), slices.Repeat([]api.Token{{Kind: api.TokSign, Text: "-"}}, 300000), slices.Repeat([]api.Token{{Kind: api.TokSign, Text: "("}}, 300000)} {
		if _, _, _, err := expr.Read(l, 0); err == api.OK {
			t.Error("a row without an end is read")
		}
	}
	if e, next, _, err := expr.Read(slices.Repeat([]api.Token{one, plus}, 300000)[:599999], 0); expr.Nodes(e) != 599999 || next != 599999 || err != api.OK {
		t.Errorf("a long row: %d, %d", next, err)
	}
}

// The rule on memory: tokens aren't changed, and answers share none with them or one another.
func TestReadMemory(t *testing.T) {
	text := "a.x = 'ann' AND COUNT(b) < SUM(b.y) + 1"
	l, _, _ := lex.Scan(text + " ")
	before := slices.Clone(l[:cap(l)])
	first, _, _, _ := expr.Read(l, 0)
	second, _, _, _ := expr.Read(l, 0)
	if !slices.Equal(l[:cap(l)], before) {
		t.Error("the tokens are changed")
	}
	wanted, _, _ := expr.Parse(text)
	spoil(first)
	if !equal(second, wanted) {
		t.Error("two answers share memory")
	}
	for _, e := range []api.Expr{second.Args[0].Args[0], second.Args[0].Args[1], second.Args[1].Args[0], second.Args[1].Args[1].Args[0]} {
		for _, x := range l {
			if x.Text != "" && (unsafe.StringData(e.Name) == unsafe.StringData(x.Text) || e.Attr != "" && unsafe.StringData(e.Attr) == unsafe.StringData(x.Text)) {
				t.Errorf("%v shares memory with %v", e, x)
			}
		}
	}
}

// spoil changes all lists of a tree, spare room included.
func spoil(e api.Expr) {
	for _, x := range e.Args {
		spoil(x)
	}
	clear(e.Args[:cap(e.Args)])
}
