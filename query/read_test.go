package query_test

import (
	"slices"
	"strings"
	"testing"
	"unsafe"

	"auspice/api"
	"auspice/expr"
	"auspice/query"
)

// P7.1: all parts, with their places.
func TestParse(t *testing.T) {
	equal := func(x int64, at int) api.Expr {
		return api.Expr{Op: api.OpEq, At: at + 3, Args: []api.Expr{{Op: api.Attr, Name: "a", Attr: "x", At: at}, {Op: api.LitInt, N: x, At: at + 4}}}
	}
	for text, wanted := range map[string]api.Query{
		"PATTERN SEQ(A a) STRATEGY ANY WITHIN 0": {
			Branches: [][]api.Item{{{Form: api.One, Type: "A", Name: "a", At: 12}}}, Strategy: api.Any,
		},
		" PATTERN\tSEQ ( A + a ,!B b)\n| SEQ(B c)STRATEGY STRICT WITHIN 7\r": {
			Branches: [][]api.Item{
				{{Form: api.Many, Type: "A", Name: "a", At: 15}, {Form: api.Not, Type: "B", Name: "b", At: 22}},
				{{Form: api.One, Type: "B", Name: "c", At: 34}},
			}, Strategy: api.Strict, Window: 7,
		},
		"PATTERN SEQ(! A a)STRATEGY NEXT WITHIN 1152921504606846976 PARTITION BY k": {
			Branches: [][]api.Item{{{Form: api.Not, Type: "A", Name: "a", At: 12}}}, Strategy: api.Next, Window: 1 << 60, Key: "k", KeyAt: 72,
		},
		"PATTERN SEQ(a a)WHERE a.x=1 STRATEGY ANY WITHIN 1": {
			Branches: [][]api.Item{{{Form: api.One, Type: "a", Name: "a", At: 12}}}, Strategy: api.Any, Window: 1, Where: []api.Expr{equal(1, 22)},
		},
		"PATTERN SEQ(A a)WHERE a.x=1AND(a.x=2 AND a.x=3)AND((((a.x=4))AND a.x=5))STRATEGY ANY WITHIN 1": {
			Branches: [][]api.Item{{{Form: api.One, Type: "A", Name: "a", At: 12}}}, Strategy: api.Any, Window: 1,
			Where: []api.Expr{equal(1, 22), equal(2, 31), equal(3, 41), equal(4, 54), equal(5, 65)},
		},
	} {
		if got := parsed(t, text); dump(got) != dump(wanted) {
			t.Errorf("Parse(%q): %+v, wanted %+v", text, got, wanted)
		}
	}
}

// P7.1: the conditions are the expression's, as AND, and AND alone, makes it of them.
func TestParseWhere(t *testing.T) {
	for text, wanted := range map[string][]string{
		"TRUE":                                {"TRUE"},
		"TRUE AND FALSE":                      {"TRUE", "FALSE"},
		"1 = 2 OR TRUE AND FALSE":             {"1 = 2 OR TRUE AND FALSE"},
		"(1 = 2 OR TRUE) AND FALSE":           {"1 = 2 OR TRUE", "FALSE"},
		"NOT (TRUE AND FALSE)":                {"NOT (TRUE AND FALSE)"},
		"NOT TRUE AND FALSE":                  {"NOT TRUE", "FALSE"},
		"(TRUE AND FALSE) = TRUE AND 1":       {"(TRUE AND FALSE) = TRUE", "1"},
		"1 AND (2 AND (3 AND 4) AND 5) AND 6": {"1", "2", "3", "4", "5", "6"},
		"((1 AND 2) AND 3) AND 4 OR 5":        {"1 AND 2 AND 3 AND 4 OR 5"},
		"1 AND 1 AND 1":                       {"1", "1", "1"},
		"REAL(1 AND 2) AND -(3 AND 4)":        {"REAL(1 AND 2)", "-(3 AND 4)"},
	} {
		q, got := parsed(t, "PATTERN SEQ(A a) WHERE "+text+" STRATEGY ANY WITHIN 1"), []string{}
		for _, c := range q.Where {
			s, _ := expr.Print(c)
			got = append(got, s)
		}
		if !slices.Equal(got, wanted) {
			t.Errorf("%q: %q, wanted %q", text, got, wanted)
		}
	}
}

// P7.1: the first token that can't stand where it does.
func TestParseSyntax(t *testing.T) {
	for _, text := range []string{
		"^", "  ^", "^SEQ(A a) STRATEGY ANY WITHIN 1", "^pattern SEQ(A a)", "^A", "PATTERN^", "PATTERN ^A a", "PATTERN ^(A a)", "PATTERN ^PATTERN SEQ(A a)", "PATTERN ^| SEQ(A a)", "PATTERN ^WHERE TRUE", "PATTERN ^seq(A a)",
		"PATTERN SEQ ^A a", "PATTERN SEQ^", "PATTERN SEQ(^", "PATTERN SEQ(^)", "PATTERN SEQ(^(A a)", "PATTERN SEQ(^, A a)", "PATTERN SEQ(^+ a)", "PATTERN SEQ(^1 a)", "PATTERN SEQ(^'A' a)", "PATTERN SEQ(^ANY a)", "PATTERN SEQ(^!= a)",
		"PATTERN SEQ(A^)", "PATTERN SEQ(A^, B b)", "PATTERN SEQ(A ^! a)", "PATTERN SEQ(A ^1)", "PATTERN SEQ(A ^TIME)", "PATTERN SEQ(A ^'a')", "PATTERN SEQ(A^.a)", "PATTERN SEQ(A+^)", "PATTERN SEQ(A+^+ a)", "PATTERN SEQ(A+ ^!a)", "PATTERN SEQ(A+^, B b)",
		"PATTERN SEQ(!^)", "PATTERN SEQ(!^!A a)", "PATTERN SEQ(!A^+ a)", "PATTERN SEQ(!A^)", "PATTERN SEQ(!^+A a)", "PATTERN SEQ(!a^.x)", "PATTERN SEQ(!^SEQ a)",
		"PATTERN SEQ(A a ^b)", "PATTERN SEQ(A a^+)", "PATTERN SEQ(A a^|B b)", "PATTERN SEQ(A a,^)", "PATTERN SEQ(A a,^, B b)", "PATTERN SEQ(A a,^WHERE", "PATTERN SEQ(A a^", "PATTERN SEQ(A a, ^",
		"PATTERN SEQ(A a)^", "PATTERN SEQ(A a)^)", "PATTERN SEQ(A a) ^SEQ(B b)", "PATTERN SEQ(A a)^, SEQ(B b)", "PATTERN SEQ(A a) | ^", "PATTERN SEQ(A a) |^| SEQ(B b)", "PATTERN SEQ(A a) | ^WHERE", "PATTERN SEQ(A a) | ^A b", "PATTERN SEQ(A a) ^ANY", "PATTERN SEQ(A a) ^WITHIN 1", "PATTERN SEQ(A a) ^PARTITION BY k",
		"PATTERN SEQ(A a) WHERE ^STRATEGY ANY WITHIN 1", "PATTERN SEQ(A a) WHERE^", "PATTERN SEQ(A a) WHERE a.x = b.x ^= c.x STRATEGY ANY WITHIN 1", "PATTERN SEQ(A a) WHERE a.x ^WHERE a.x", "PATTERN SEQ(A a) WHERE a.x^, a.y", "PATTERN SEQ(A a) WHERE (a.x ^STRATEGY ANY WITHIN 1", "PATTERN SEQ(A a) WHERE a.x^) STRATEGY ANY WITHIN 1", "PATTERN SEQ(A a) WHERE a.x AND ^STRATEGY ANY WITHIN 1", "PATTERN SEQ(A a) WHERE a.x ^NOT a.x", "PATTERN SEQ(A a) WHERE a.x ^| SEQ(B b)", "PATTERN SEQ(A a) WHERE TRUE^", "PATTERN SEQ(A a) WHERE TRUE ^WITHIN 1",
		"PATTERN SEQ(A a) STRATEGY^", "PATTERN SEQ(A a) STRATEGY ^WITHIN 1", "PATTERN SEQ(A a) STRATEGY ^any WITHIN 1", "PATTERN SEQ(A a) STRATEGY ^'any' WITHIN 1", "PATTERN SEQ(A a) STRATEGY ^1 WITHIN 1", "PATTERN SEQ(A a) STRATEGY ^+ WITHIN 1", "PATTERN SEQ(A a) STRATEGY ANY ^NEXT WITHIN 1", "PATTERN SEQ(A a) STRATEGY ANY ^WHERE TRUE", "PATTERN SEQ(A a) STRATEGY ANY^", "PATTERN SEQ(A a) STRATEGY ANY ^PARTITION BY k WITHIN 1",
		"PATTERN SEQ(A a) STRATEGY ANY WITHIN^", "PATTERN SEQ(A a) STRATEGY ANY WITHIN ^-1", "PATTERN SEQ(A a) STRATEGY ANY WITHIN ^1.5", "PATTERN SEQ(A a) STRATEGY ANY WITHIN ^k", "PATTERN SEQ(A a) STRATEGY ANY WITHIN ^(1)", "PATTERN SEQ(A a) STRATEGY ANY WITHIN 1 ^2", "PATTERN SEQ(A a) STRATEGY ANY WITHIN 1^.x", "PATTERN SEQ(A a) STRATEGY ANY WITHIN 1 ^WHERE TRUE", "PATTERN SEQ(A a) STRATEGY ANY WITHIN 1 ^k", "PATTERN SEQ(A a) STRATEGY ANY WITHIN 1 ^BY k", "PATTERN SEQ(A a) STRATEGY ANY WITHIN 1 ^| SEQ(B b)",
		"PATTERN SEQ(A a) STRATEGY ANY WITHIN 1 PARTITION^", "PATTERN SEQ(A a) STRATEGY ANY WITHIN 1 PARTITION ^k", "PATTERN SEQ(A a) STRATEGY ANY WITHIN 1 PARTITION BY^", "PATTERN SEQ(A a) STRATEGY ANY WITHIN 1 PARTITION BY ^TIME", "PATTERN SEQ(A a) STRATEGY ANY WITHIN 1 PARTITION BY ^'k'", "PATTERN SEQ(A a) STRATEGY ANY WITHIN 1 PARTITION BY ^1", "PATTERN SEQ(A a) STRATEGY ANY WITHIN 1 PARTITION BY k^, l", "PATTERN SEQ(A a) STRATEGY ANY WITHIN 1 PARTITION BY k ^PARTITION BY k", "PATTERN SEQ(A a) STRATEGY ANY WITHIN 1 PARTITION BY a^.k",
	} {
		wantFault(t, text, api.ErrSyntax)
	}
}

// P7.1: Scan's error ahead of all others.
func TestParseScan(t *testing.T) {
	wantFault(t, "PATTERN ) ^~", api.ErrToken)
	wantFault(t, "PATTERN SEQ(A a) STRATEGY ANY WITHIN ^9223372036854775808", api.ErrToken)
	wantFault(t, "PATTERN SEQ(A ^"+strings.Repeat("a", api.MaxName+1)+")", api.ErrToken)
	wantFault(t, strings.Repeat("SEQ(", 20)+"^01", api.ErrToken)
	text := "PATTERN SEQ(A a) STRATEGY ANY WITHIN 1"
	blanks := strings.Repeat(" ", api.MaxText-len(text))
	parsed(t, text+blanks)
	parsed(t, blanks+text)
	wantFault(t, text+blanks+" ", api.ErrLong)
	wantFault(t, "~"+blanks+text, api.ErrLong)
	wantFault(t, ")"+strings.Repeat(" ", api.MaxText), api.ErrLong)
}

// P7.1: how many branches and items there may be.
func TestParseLong(t *testing.T) {
	const end = " STRATEGY ANY WITHIN 1"
	branch := "SEQ(" + strings.Repeat("A a, ", api.MaxItems-1)
	whole := "PATTERN " + strings.Repeat(branch+"!B b) | ", api.MaxBranches-1) + branch
	q := parsed(t, whole+"A+ a)"+end)
	for _, l := range q.Branches {
		if len(l) != api.MaxItems || len(q.Branches) != api.MaxBranches {
			t.Errorf("%d branches, %d items of one", len(q.Branches), len(l))
		}
	}
	for _, text := range []string{
		whole + "A a, ^A a)" + end, whole + "A a, ^!A a)" + end, whole + "A a, ^A+ a)" + end, whole + "A a, ^A", whole + "A a, ^!", whole + "A a, ^A) |", whole + "A a, ^!+",
		"PATTERN " + branch + "A a, ^B b)", "PATTERN SEQ(A a) | " + branch + "A a, ^B b)",
		whole + "A a) | ^SEQ(A a)" + end, whole + "A a) | ^SEQ", whole + "A a) | ^SEQ(" + strings.Repeat("A a,", 20), whole + "A a) | ^SEQ SEQ", whole + "A a)|^SEQ)",
		"PATTERN SEQ(A a)|SEQ(A a)|SEQ(A a)|SEQ(A a)|^SEQ(A a)|SEQ(A a)",
	} {
		wantFault(t, text, api.ErrLong)
	}
	for _, text := range []string{
		whole + "A a, ^)" + end, whole + "A a, ^" + end, whole + "A a, ^, A a)", whole + "A a, ^SEQ", whole + "A a, ^+ a)", whole + "A a, ^1",
		whole + "A a) | ^A a", whole + "A a) | ^" + end, whole + "A a) | ^", whole + "A a) | ^(A a)", whole + "A a) |^| SEQ(A a)",
		whole + "A a)^, A a)", whole + "A a ^| SEQ(A a)", "PATTERN SEQ(A ^, " + strings.Repeat("A a,", 20),
	} {
		wantFault(t, text, api.ErrSyntax)
	}
}

// P7.1: Read's errors of the expression, in their order among the others.
func TestParseReads(t *testing.T) {
	const begin, end = "PATTERN SEQ(A a) WHERE ", " STRATEGY ANY WITHIN 1"
	open := strings.Repeat("(", api.MaxDeep)
	closed := open + "TRUE" + strings.Repeat(")", api.MaxDeep)
	parsed(t, begin+closed+" AND "+closed+end)
	wantFault(t, begin+"TRUE AND "+open+"^(TRUE", api.ErrDeep)
	wantFault(t, begin+open+"^NOT"+end, api.ErrDeep)
	wantFault(t, begin+strings.Repeat("NOT ", api.MaxDeep)+"^-1"+end, api.ErrDeep)
	wantFault(t, begin+"TRUE ^TRUE AND "+open+"(TRUE", api.ErrSyntax)
	wantFault(t, "PATTERN SEQ(A ^) WHERE "+open+"(TRUE", api.ErrSyntax)
	wantFault(t, begin+open+"^) STRATEGY ANY WITHIN 1152921504606846977", api.ErrSyntax)
	wantFault(t, begin+closed[:len(closed)-1]+"^"+end, api.ErrSyntax)
}

// P7.1: the window's bound, told at its number, ahead of what stands behind it.
func TestParseWindow(t *testing.T) {
	const begin = "PATTERN SEQ(A a) STRATEGY ANY WITHIN "
	for text, wanted := range map[string]int64{"0": 0, "1": 1, "1152921504606846975": 1<<60 - 1, "1152921504606846976": 1 << 60} {
		if q := parsed(t, begin+text); q.Window != wanted {
			t.Errorf("within %s: %d", text, q.Window)
		}
	}
	for _, number := range []string{"1152921504606846977", "9223372036854775807"} {
		for _, behind := range []string{"", " PARTITION BY k", " PARTITION", " )", " ANY", " 1"} {
			wantFault(t, begin+"^"+number+behind, api.ErrArg)
		}
	}
	wantFault(t, "PATTERN SEQ(A a) STRATEGY ^WITHIN 1152921504606846977", api.ErrSyntax)
}

// P7.1: the bound of the nodes, behind all other errors.
func TestParseNodes(t *testing.T) {
	const begin, end = "PATTERN SEQ(A a) WHERE ", " STRATEGY ANY WITHIN 1"
	for _, text := range []string{row(199), "-" + row(199), row(99) + " AND " + row(99), "TRUE AND (" + row(99) + " AND " + row(97) + ")", "NOT " + row(97) + " AND " + row(101)} {
		parsed(t, begin+text+end)
	}
	for _, text := range []string{row(201), "NOT NOT " + row(99) + " AND (TRUE AND " + row(97) + ")", row(101) + " AND " + row(99), row(99) + " AND TRUE AND " + row(99), strings.Repeat("TRUE AND ", 100) + "TRUE", "NOT -" + row(199)} {
		wantFault(t, begin+text+end, api.ErrLong)
		wantFault(t, begin+text+end+" ^1", api.ErrSyntax)
		wantFault(t, begin+text+" STRATEGY ANY WITHIN ^1152921504606846977", api.ErrArg)
	}
	wantFault(t, begin+"1 = "+strings.Repeat("1+", 1900)+"1"+end, api.ErrLong)
}

// The rule on memory: two answers share no list, and no text with what was handed in.
func TestParseMemory(t *testing.T) {
	text := "PATTERN SEQ(A a, B+ b) | SEQ(C c) WHERE a.x = 1 AND (b.x = 2 AND c.x = 'ann' OR TRUE) STRATEGY NEXT WITHIN 5 PARTITION BY k"
	first, second := parsed(t, text), parsed(t, text)
	wanted := dump(second)
	for i, l := range first.Branches {
		clear(l[:cap(l)])
		first.Branches[i] = nil
	}
	spoil(first.Where)
	if dump(second) != wanted {
		t.Error("two answers share memory")
	}
	inText := func(s string) bool {
		at, from := uintptr(unsafe.Pointer(unsafe.StringData(s))), uintptr(unsafe.Pointer(unsafe.StringData(text)))
		return at >= from && at < from+uintptr(len(text))
	}
	for _, s := range []string{second.Branches[0][0].Type, second.Branches[0][1].Name, second.Key, second.Where[0].Args[0].Name} {
		if inText(s) {
			t.Errorf("%q lies in the text", s)
		}
	}
}

// P7.1: no two conditions' lists are one, spare room included.
func TestParseLists(t *testing.T) {
	text := "PATTERN SEQ(A a) WHERE 1=2 AND(3=4 AND 5=6)AND NOT(7=8 AND 9=10)STRATEGY ANY WITHIN 1"
	whole := parsed(t, text)
	for i := range whole.Where {
		q := parsed(t, text)
		spoil(q.Where[i].Args)
		for j, c := range q.Where {
			if j != i && dump(c) != dump(whole.Where[j]) {
				t.Errorf("the conditions %d and %d share memory", i, j)
			}
		}
	}
}

// spoil changes all lists of trees, spare room included.
func spoil(l []api.Expr) {
	for _, x := range l {
		spoil(x.Args)
	}
	clear(l[:cap(l)])
}

// P1: texts of all sorts.
func TestParseOdd(t *testing.T) {
	r := random()
	for range 20000 {
		b := make([]byte, r.IntN(40))
		for i := range b {
			b[i] = byte(r.IntN(256))
		}
		if q, _, err := query.Parse("PATTERN SEQ(" + string(b)); err == api.OK {
			query.Print(q)
		}
	}
	for _, s := range []string{"PATTERN ", "SEQ(", "|", "A ", "!", ",", "AND ", "(", "- ", "WHERE ", "\x00", "\xff"} {
		query.Parse(strings.Repeat(s, api.MaxText/len(s)))
		query.Parse(strings.Repeat(s, 100000))
		query.Parse("PATTERN SEQ(A a) WHERE " + strings.Repeat(s, 3900/len(s)))
	}
}
