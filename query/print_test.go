package query_test

import (
	"math"
	"slices"
	"strconv"
	"strings"
	"testing"

	"auspice/api"
	"auspice/expr"
	"auspice/lex"
	"auspice/query"
)

// P7.3: the blanks, and the brackets about an OpOr among several conditions.
func TestPrint(t *testing.T) {
	for text, wanted := range map[string]string{
		"PATTERN SEQ(A a,!B b,C+c)WHERE a.x=1 AND(c.x>2 AND b.x=a.x)STRATEGY NEXT WITHIN 5 PARTITION BY k": "PATTERN SEQ(A a, !B b, C+ c) WHERE a.x = 1 AND c.x > 2 AND b.x = a.x STRATEGY NEXT WITHIN 5 PARTITION BY k",
		"PATTERN\nSEQ ( A\ta )STRATEGY STRICT WITHIN 0":                                                    "PATTERN SEQ(A a) STRATEGY STRICT WITHIN 0",
		"PATTERN SEQ(! A a,A + b)STRATEGY ANY WITHIN 1152921504606846976":                                  "PATTERN SEQ(!A a, A+ b) STRATEGY ANY WITHIN 1152921504606846976",
		"PATTERN SEQ(A a)|SEQ(B b,C c)|SEQ(!D d)STRATEGY ANY WITHIN 7 PARTITION\tBY TIMES":                 "PATTERN SEQ(A a) | SEQ(B b, C c) | SEQ(!D d) STRATEGY ANY WITHIN 7 PARTITION BY TIMES",
		"PATTERN SEQ(A a)WHERE((TRUE OR FALSE))STRATEGY ANY WITHIN 1":                                      "PATTERN SEQ(A a) WHERE TRUE OR FALSE STRATEGY ANY WITHIN 1",
		"PATTERN SEQ(A a)WHERE(1 OR 2)AND 3 STRATEGY ANY WITHIN 1":                                         "PATTERN SEQ(A a) WHERE (1 OR 2) AND 3 STRATEGY ANY WITHIN 1",
		"PATTERN SEQ(A a)WHERE 3 AND((1 OR 2)AND(4 OR 5 AND 6))STRATEGY ANY WITHIN 1":                      "PATTERN SEQ(A a) WHERE 3 AND (1 OR 2) AND (4 OR 5 AND 6) STRATEGY ANY WITHIN 1",
		"PATTERN SEQ(A a)WHERE(NOT 1)AND(NOT(2 OR 3))AND(4=(5 AND 6))STRATEGY ANY WITHIN 1":                "PATTERN SEQ(A a) WHERE NOT 1 AND NOT (2 OR 3) AND 4 = (5 AND 6) STRATEGY ANY WITHIN 1",
	} {
		wantPrint(t, parsed(t, text), wanted)
	}
}

// wantBlanks: a text's blanks stand where the chapter has them, by its words and signs; but within the conditions, which are layer 6's.
func wantBlanks(t *testing.T, text string) {
	t.Helper()
	l, _, _ := lex.Scan(text)
	got, inside := "", false
	for i, x := range l[:len(l)-1] {
		s := lex.Spell(x)
		inside = (inside || s == "WHERE") && s != "STRATEGY"
		if i > 0 && !inside || s == "WHERE" {
			ahead := lex.Spell(l[i-1])
			if !slices.Contains([]string{"SEQ", "(", "!"}, ahead) && !slices.Contains([]string{"+", ",", ")"}, s) {
				got += " "
			}
		} else if i > 0 && text[x.At-1] == ' ' {
			got += " "
		}
		got += s
	}
	if text != got {
		t.Fatalf("%q, wanted %q", text, got)
	}
}

// P7.3: Parse of the text is the query, places aside.
func TestPrintRandom(t *testing.T) {
	r, printed := random(), 0
	for range 4000 {
		q, _, err := query.Parse(randomQuery(r))
		if err != api.OK {
			continue
		}
		text, err := query.Print(moved(q))
		if err != api.OK {
			t.Fatalf("Print(%v): %d", q, err)
		}
		wantBlanks(t, text)
		back := parsed(t, text)
		if again, _ := query.Print(back); again != text || !query.Same(back, q) || query.Nodes(back) != query.Nodes(q) || !slices.Equal(heldNames(back), heldNames(q)) {
			t.Fatalf("%q is read as %v, wanted %v", text, back, q)
		}
		printed++
	}
	if printed < 1000 {
		t.Errorf("only %d are printed", printed)
	}
}

// P7.3: each condition is printed as layer 6 prints it.
func TestPrintConditions(t *testing.T) {
	r := random()
	for range 2000 {
		q, texts := small(), []string{}
		for range 1 + r.IntN(4) {
			c := condition(t, randomText(r, 3))
			if c.Op != api.OpAnd {
				s, _ := expr.Print(c)
				q.Where, texts = append(q.Where, c), append(texts, s)
			}
		}
		for i, c := range q.Where {
			if c.Op == api.OpOr && len(q.Where) > 1 {
				texts[i] = "(" + texts[i] + ")"
			}
		}
		where := strings.Join(texts, " AND ")
		if where != "" {
			where = " WHERE " + where
		}
		wantPrint(t, q, "PATTERN SEQ(A a)"+where+" STRATEGY ANY WITHIN 5")
	}
}

// ill are queries, each not of the form by one thing.
func ill() map[string]api.Query {
	m := map[string]api.Query{"nothing": {}}
	add := func(what string, change func(q *api.Query)) {
		q := copied(small())
		change(&q)
		m[what] = q
	}
	add("no branch", func(q *api.Query) { q.Branches = nil })
	add("an empty branch", func(q *api.Query) { q.Branches = [][]api.Item{{}} })
	add("an empty branch behind", func(q *api.Query) { q.Branches = append(q.Branches, nil) })
	for _, n := range []int{math.MinInt, -1, 0, 4, math.MaxInt} {
		add("the form "+strconv.Itoa(n), func(q *api.Query) { q.Branches[0][0].Form = n })
		add("the strategy "+strconv.Itoa(n), func(q *api.Query) { q.Strategy = n })
	}
	for _, s := range []string{"", "_a", "1", "a b", " a", "a ", "a.x", "SEQ", "TIME", "ä", "a\n", "\x00", "'a'", "a+", "\xff", strings.Repeat("a", api.MaxName+1), strings.Repeat("a", api.MaxText+1)} {
		add("a type "+s, func(q *api.Query) { q.Branches[0][0].Type = s })
		add("a name "+s, func(q *api.Query) { q.Branches[0][0].Name = s })
		if s != "" {
			add("a key "+s, func(q *api.Query) { q.Key = s })
		}
	}
	for _, n := range []int64{math.MinInt64, -1, api.MaxTime + 1, math.MaxInt64} {
		add("the window "+strconv.FormatInt(n, 10), func(q *api.Query) { q.Window = n })
	}
	yes := api.Expr{Op: api.LitBool, N: 1}
	for what, c := range map[string]api.Expr{
		"an AND": of(api.OpAnd, yes, yes), "nothing": {}, "a truth of 2": {Op: api.LitBool, N: 2}, "a node of a plan": {Op: api.Cur}, "an operand too many": of(api.OpNot, yes, yes), "a bad name below": of(api.OpNot, of(api.OpNot, api.Expr{Op: api.Count, Name: "SEQ"})),
	} {
		add(what+" as a condition", func(q *api.Query) { q.Where = []api.Expr{c} })
		add(what+" as a condition behind", func(q *api.Query) { q.Where = []api.Expr{yes, of(api.OpAnd, yes, yes).Args[0], c} })
	}
	return m
}

// P7.3: what isn't of the form, in the first item and in others, ahead of all other errors.
func TestPrintForm(t *testing.T) {
	tooDeep := deep(api.OpNot, api.MaxDeep+1, api.Expr{Op: api.LitBool})
	for what, q := range ill() {
		wantNoPrint(t, what, q, api.ErrForm)
		q.Where = append(q.Where, tooDeep)
		wantNoPrint(t, what+", too deep", q, api.ErrForm)
		q.Where = append(q.Where, slices.Repeat([]api.Expr{{Op: api.LitBool}}, 300)...)
		wantNoPrint(t, what+", too many nodes", q, api.ErrForm)
	}
	for what, q := range ill() {
		if len(q.Branches) != 1 || len(q.Branches[0]) != 1 {
			continue
		}
		own := q.Branches[0][0]
		good := small().Branches[0]
		for range 4 {
			good = append(good, good...)
		}
		q.Branches = [][]api.Item{good, append(slices.Clone(good), own), good, good, good, good}
		wantNoPrint(t, what+", too many", q, api.ErrForm)
	}
	q := small()
	q.Branches = slices.Repeat(q.Branches, 9)
	q.Branches = append(q.Branches, nil)
	wantNoPrint(t, "too many branches, the last one empty", q, api.ErrForm)
}

// P7.3: an OpAnd is no condition, but may stand within one; any names do, a type's as its own too.
func TestPrintFormEdges(t *testing.T) {
	q, long := small(), strings.Repeat("a", api.MaxName)
	q.Where = []api.Expr{condition(t, "1 OR 2 AND 3"), condition(t, "NOT (1 AND 2)")}
	q.Branches[0][0] = api.Item{Form: api.Not, Type: long, Name: long, At: -9}
	q.Key, q.KeyAt, q.Window, q.Strategy = long, -1, api.MaxTime, api.Strict
	wantPrint(t, q, "PATTERN SEQ(!"+long+" "+long+") WHERE (1 OR 2 AND 3) AND NOT (1 AND 2) STRATEGY STRICT WITHIN 1152921504606846976 PARTITION BY "+long)
}

// P7.3: the bounds of branches, items and nodes.
func TestPrintLong(t *testing.T) {
	q := small()
	q.Branches = slices.Repeat([][]api.Item{slices.Repeat(q.Branches[0], api.MaxItems)}, api.MaxBranches)
	wantPrint(t, q, "PATTERN "+strings.Repeat("SEQ("+strings.Repeat("A a, ", api.MaxItems-1)+"A a) | ", api.MaxBranches)[:4*(4+8*5-2+4)-3]+" STRATEGY ANY WITHIN 5")
	more := q
	more.Branches = append(slices.Clone(q.Branches), small().Branches[0])
	wantNoPrint(t, "a branch more", more, api.ErrLong)
	for i := range q.Branches {
		more.Branches = slices.Clone(q.Branches)
		more.Branches[i] = append(slices.Clone(q.Branches[i]), q.Branches[i][0])
		wantNoPrint(t, "an item more", more, api.ErrLong)
	}
	yes, half := api.Expr{Op: api.LitBool, N: 1}, condition(t, row(99))
	for _, c := range []struct {
		what   string
		where  []api.Expr
		wanted api.Errno
	}{
		{"199", []api.Expr{condition(t, row(199))}, api.OK},
		{"200", []api.Expr{of(api.OpNeg, condition(t, row(199)))}, api.OK},
		{"201", []api.Expr{of(api.OpNot, of(api.OpNeg, condition(t, row(199))))}, api.ErrLong},
		{"401", []api.Expr{of(api.OpEq, of(api.OpNeg, condition(t, row(199))), of(api.OpNeg, condition(t, row(199))))}, api.ErrLong},
		{"99, 99 and an AND", []api.Expr{half, half}, api.OK},
		{"100, 99 and an AND", []api.Expr{of(api.OpNot, half), half}, api.OK},
		{"99, 101 and an AND", []api.Expr{half, of(api.OpNot, of(api.OpNot, half))}, api.ErrLong},
		{"99, 99, 1 and two ANDs", []api.Expr{half, half, yes}, api.ErrLong},
		{"99, 97, 1 and two ANDs", []api.Expr{half, condition(t, row(97)), yes}, api.OK},
		{"100 and 99 ANDs", slices.Repeat([]api.Expr{yes}, 100), api.OK},
		{"101 and 99 ANDs", append(slices.Repeat([]api.Expr{yes}, 99), of(api.OpNot, yes)), api.OK},
		{"102 and 99 ANDs", append(slices.Repeat([]api.Expr{yes}, 99), of(api.OpNot, of(api.OpNot, yes))), api.ErrLong},
		{"101 and 100 ANDs", slices.Repeat([]api.Expr{yes}, 101), api.ErrLong},
		{"far more", slices.Repeat([]api.Expr{half}, 10000), api.ErrLong},
	} {
		q := small()
		q.Where = c.where
		if text, err := query.Print(q); err != c.wanted || (text == "") != (err != api.OK) {
			t.Errorf("%s: %q, %d, wanted %d", c.what, text, err, c.wanted)
		}
	}
}

// withText is a query of a text of so many bytes, from some hundred on, with these conditions behind another one.
func withText(t *testing.T, bytes int, where ...api.Expr) api.Query {
	t.Helper()
	q := small()
	q.Where = append([]api.Expr{filler(10)}, where...)
	text, err := query.Print(q)
	if err != api.OK {
		t.Fatalf("Print(%v): %d", q, err)
	}
	q.Where[0] = filler(10 + bytes - len(text))
	return q
}

// P7.3: the bound of the text.
func TestPrintText(t *testing.T) {
	for _, more := range []string{"TRUE", "1 OR 2", "NOT a.x = 'ann'"} {
		c := condition(t, more)
		for _, bytes := range []int{3900, api.MaxText - 1, api.MaxText} {
			q := withText(t, bytes, c)
			text, err := query.Print(q)
			if len(text) != bytes || err != api.OK || !query.Same(parsed(t, text), q) {
				t.Errorf("%d bytes, wanted %d: %d", len(text), bytes, err)
			}
		}
		for _, bytes := range []int{api.MaxText + 1, api.MaxText + 2, 4100, 5000} {
			wantNoPrint(t, "a text too long", withText(t, bytes, c), api.ErrLong)
		}
	}
	q := small()
	q.Where = []api.Expr{filler(3954)}
	if text, err := query.Print(q); len(text) != api.MaxText-1 || err != api.OK {
		t.Errorf("%d bytes: %d", len(text), err)
	}
	q.Key = "k"
	wantNoPrint(t, "too long by its key", q, api.ErrLong)
	q.Key = ""
	for _, change := range []func(q *api.Query){
		func(q *api.Query) { q.Branches[0][0].Name = "abc" },
		func(q *api.Query) { q.Branches[0][0].Type = "Abc" },
		func(q *api.Query) { q.Branches = append(q.Branches, q.Branches[0]) },
		func(q *api.Query) { q.Branches[0] = append(q.Branches[0], q.Branches[0][0]) },
		func(q *api.Query) { q.Strategy = api.Strict },
		func(q *api.Query) { q.Window = 100 },
		func(q *api.Query) { q.Where = append(q.Where, filler(3)) },
		func(q *api.Query) { q.Where = []api.Expr{filler(3956)} },
		func(q *api.Query) { q.Where = []api.Expr{filler(4001)} },
	} {
		longer := copied(q)
		change(&longer)
		wantNoPrint(t, "too long by another thing", longer, api.ErrLong)
	}
}

// P7.3: the nest's bound, with the brackets that stand about an OpOr only among several conditions.
func TestPrintDeep(t *testing.T) {
	yes := api.Expr{Op: api.LitBool, N: 1}
	full := deep(api.OpNot, api.MaxDeep, yes)
	either := of(api.OpOr, yes, full)
	q := small()
	for _, c := range []struct {
		what   string
		where  []api.Expr
		wanted api.Errno
	}{
		{"MaxDeep", []api.Expr{full}, api.OK}, {"MaxDeep among others", []api.Expr{yes, full, yes}, api.OK}, {"MaxDeep each", []api.Expr{full, full, full}, api.OK},
		{"one more", []api.Expr{of(api.OpNot, full)}, api.ErrDeep}, {"one more among others", []api.Expr{yes, of(api.OpNot, full)}, api.ErrDeep}, {"one more at the front", []api.Expr{of(api.OpNot, full), yes}, api.ErrDeep},
		{"an OR alone", []api.Expr{either}, api.OK}, {"an OR ahead", []api.Expr{either, yes}, api.ErrDeep}, {"an OR behind", []api.Expr{yes, either}, api.ErrDeep}, {"an OR in the middle", []api.Expr{yes, either, yes}, api.ErrDeep},
		{"a lesser OR", []api.Expr{yes, of(api.OpOr, full.Args[0], yes)}, api.OK}, {"an AND in an OR", []api.Expr{of(api.OpOr, of(api.OpAnd, yes, full), yes)}, api.OK},
	} {
		q.Where = c.where
		if text, err := query.Print(q); err != c.wanted || (text == "") != (err != api.OK) {
			t.Errorf("%s: %q, %d, wanted %d", c.what, text, err, c.wanted)
		}
	}
}

// P7.3: of a query that is too deep, whether its text is too long, which is named first; by a text that grows with each operator by as many bytes.
func TestPrintDeepAndLong(t *testing.T) {
	r := random()
	wraps := []func(e api.Expr) api.Expr{
		func(e api.Expr) api.Expr { return of(api.OpNot, e) },
		func(e api.Expr) api.Expr { return of(api.OpNeg, e) },
		func(e api.Expr) api.Expr { return of(api.OpReal, e) },
		func(e api.Expr) api.Expr { return of(api.OpNan, e) },
		func(e api.Expr) api.Expr { return of(api.OpMul, of(api.OpNot, e), api.Expr{Op: api.LitInt, N: 3}) },
	}
	for op := api.OpAdd; op <= api.OpOr; op++ {
		if op != api.OpNeg {
			wraps = append(wraps, func(e api.Expr) api.Expr { return of(op, api.Expr{Op: api.LitInt, N: 12}, of(api.OpNeg, e)) })
		}
	}
	q := api.Query{Strategy: api.Next, Window: 77, Key: "key"}
	for range 3 {
		q.Branches = append(q.Branches, slices.Repeat([]api.Item{{Form: api.Many, Type: strings.Repeat("T", api.MaxName), Name: strings.Repeat("n", api.MaxName)}}, 7))
	}
	frame, _ := query.Print(q)
	for _, wrap := range slices.Repeat(wraps, 6) {
		c := wrap(condition(t, randomText(r, 2)))
		bytes := len(textOf(t, c))
		grows := len(textOf(t, wrap(c))) - bytes
		for _, err := expr.Print(c); err == api.OK; _, err = expr.Print(c) {
			c, bytes = wrap(c), bytes+grows
		}
		if c.Op == api.OpAnd {
			c, bytes = of(api.OpNot, c), bytes+len("NOT ()")
		}
		if c.Op == api.OpOr {
			bytes += len("()")
		}
		left := api.MaxText - len(frame) - len(" WHERE ") - bytes - len(" AND ")
		for over, wanted := range map[int]api.Errno{-1: api.ErrDeep, 0: api.ErrDeep, 1: api.ErrLong, 2: api.ErrLong} {
			q.Where = []api.Expr{c, filler(left + over)}
			wantNoPrint(t, "too deep, then much, "+strconv.Itoa(over)+" over", q, wanted)
			q.Where = []api.Expr{filler(left + over), c}
			wantNoPrint(t, "much, then too deep, "+strconv.Itoa(over)+" over", q, wanted)
		}
	}
}

func textOf(t *testing.T, e api.Expr) string {
	t.Helper()
	s, err := expr.Print(e)
	if err != api.OK {
		t.Fatalf("Print(%v): %d", e, err)
	}
	return s
}

// P7.3: of several errors the one that the chapter names first.
func TestPrintOrder(t *testing.T) {
	q := small()
	tooDeep := deep(api.OpNot, api.MaxDeep+1, api.Expr{Op: api.LitBool})
	q.Where = []api.Expr{tooDeep}
	wantNoPrint(t, "too deep", q, api.ErrDeep)
	many := copied(q)
	many.Branches = slices.Repeat(many.Branches, api.MaxBranches+1)
	wantNoPrint(t, "too deep, too many branches", many, api.ErrLong)
	many = copied(q)
	many.Branches[0] = slices.Repeat(many.Branches[0], api.MaxItems+1)
	wantNoPrint(t, "too deep, too many items", many, api.ErrLong)
	many = copied(q)
	many.Where = append(many.Where, slices.Repeat([]api.Expr{{Op: api.LitBool}}, 100)...)
	wantNoPrint(t, "too deep, too many nodes", many, api.ErrLong)
}
