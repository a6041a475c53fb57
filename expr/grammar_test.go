package expr_test

import (
	"slices"
	"strings"
	"testing"

	"auspice/api"
	"auspice/expr"
	"auspice/lex"
)

// grammar is the chapter's table, a rule a line: all that may be put for a word of small letters, between strokes. NAME, INT, REALNUM and SYM are tokens of these kinds.
const grammar = `
e1: e1 OR e2 | e2
e2: e2 AND e3 | e3
e3: NOT e3 | e4
e4: e5 cmp e5 | e5
cmp: = | != | < | <= | > | >=
e5: e5 + e6 | e5 - e6 | e6
e6: e6 * e7 | e6 / e7 | e6 % e7 | e7
e7: - e7 | e8
e8: ( e1 ) | REAL ( e1 ) | ISNAN ( e1 ) | leaf
leaf: INT | REALNUM | TRUE | FALSE | SYM | NAME . field | COUNT ( NAME ) | agg ( NAME . field )
agg: FIRST | LAST | SUM | MIN | MAX | MEAN
field: NAME | TIME
`

func allRules() map[string][][]string {
	m := map[string][][]string{}
	for line := range strings.Lines(strings.TrimSpace(grammar)) {
		name, bodies, _ := strings.Cut(strings.TrimSpace(line), ": ")
		for body := range strings.SplitSeq(bodies, " | ") {
			m[name] = append(m[name], strings.Fields(body))
		}
	}
	return m
}

// terminal is what a token is called in the grammar.
func terminal(t api.Token) string {
	switch t.Kind {
	case api.TokName:
		return "NAME"
	case api.TokInt:
		return "INT"
	case api.TokReal:
		return "REALNUM"
	case api.TokSym:
		return "SYM"
	case api.TokEnd:
		return "END"
	}
	return t.Text
}

// item is a rule of which so much is read, from a place on (Earley's).
type item struct {
	name string
	body int
	read int
	from int
}

// reach reads tokens by the grammar, as far as they may begin an expression: how many these are, and whether they are one.
func reach(rules map[string][][]string, l []api.Token) (int, bool) {
	sets := [][]item{begin(rules, "e1", 0)}
	for at := 0; ; at++ {
		complete(rules, sets)
		whole := slices.ContainsFunc(sets[at], func(i item) bool {
			return i.name == "e1" && i.from == 0 && i.read == len(rules["e1"][i.body])
		})
		if at == len(l) {
			return at, whole
		}
		next := []item{}
		for _, i := range sets[at] {
			if body := rules[i.name][i.body]; i.read < len(body) && body[i.read] == terminal(l[at]) {
				i.read++
				next = append(next, i)
			}
		}
		if len(next) == 0 {
			return at, whole
		}
		sets = append(sets, next)
	}
}

func begin(rules map[string][][]string, name string, at int) []item {
	l := []item{}
	for body := range rules[name] {
		l = append(l, item{name, body, 0, at})
	}
	return l
}

// complete adds to the last set what its items ask for, and what they end.
func complete(rules map[string][][]string, sets [][]item) {
	at := len(sets) - 1
	for n := 0; n < len(sets[at]); n++ {
		i := sets[at][n]
		more := []item{}
		if body := rules[i.name][i.body]; i.read < len(body) {
			more = begin(rules, body[i.read], at)
		} else {
			for _, j := range sets[i.from] {
				if b := rules[j.name][j.body]; j.read < len(b) && b[j.read] == i.name {
					j.read++
					more = append(more, j)
				}
			}
		}
		for _, j := range more {
			if !slices.Contains(sets[at], j) {
				sets[at] = append(sets[at], j)
			}
		}
	}
}

// holdRead holds Read, from each place of a text on, and Parse against the grammar.
func holdRead(t *testing.T, rules map[string][][]string, text string) {
	t.Helper()
	l, _, err := lex.Scan(text)
	if err != api.OK {
		t.Fatalf("no tokens: %q", text)
	}
	for from := range l {
		length, whole := reach(rules, l[from:])
		e, next, at, err := expr.Read(l, from)
		if whole {
			if next != from+length || at != 0 || err != api.OK {
				t.Fatalf("Read(%q, %d): next %d, at %d, %d, wanted next %d", text, from, next, at, err, from+length)
			}
			wantOrder(t, text, e)
		} else if !equal(e, api.Expr{}) || next != 0 || at != l[from+length].At || err != api.ErrSyntax {
			t.Fatalf("Read(%q, %d): next %d, at %d, %d, wanted ErrSyntax at %d", text, from, next, at, err, l[from+length].At)
		}
	}
	length, whole := reach(rules, l)
	_, at, err := expr.Parse(text)
	switch end := length == len(l)-1; {
	case whole && end && (at != 0 || err != api.OK):
		t.Fatalf("Parse(%q): %d at %d", text, err, at)
	case !(whole && end) && (at != l[length].At || err != api.ErrSyntax):
		t.Fatalf("Parse(%q): %d at %d, wanted ErrSyntax at %d", text, err, at, l[length].At)
	}
}

// wantOrder: each node of a tree stands where its operator or its first token does, its left operand ahead of it, the other one behind.
func wantOrder(t *testing.T, text string, e api.Expr) {
	t.Helper()
	last := -1
	var walk func(e api.Expr)
	walk = func(e api.Expr) {
		if len(e.Args) == 2 {
			walk(e.Args[0])
		}
		if e.At <= last || !strings.HasPrefix(text[e.At:], begins(e)) {
			t.Fatalf("%q: a node %d at %d, behind %d", text, e.Op, e.At, last)
		}
		last = e.At
		if len(e.Args) > 0 {
			walk(e.Args[len(e.Args)-1])
		}
	}
	walk(e)
}

// begins is what stands at a node's place.
func begins(e api.Expr) string {
	if m := marks()[e.Op]; m != "" {
		return m
	}
	switch e.Op {
	case api.LitSym:
		return "'"
	case api.LitBool:
		return [2]string{"FALSE", "TRUE"}[e.N]
	case api.Attr:
		return e.Name
	}
	return ""
}

// tokens are texts of tokens of all sorts.
func tokens() []string {
	return strings.Fields("OR AND NOT NOT = != < <= > >= + - - * / % ( ( ( ) ) ) REAL ISNAN COUNT FIRST LAST SUM MIN MAX MEAN TRUE FALSE TIME . . . a b a.x b.TIME 1 0.5 'ann' , ! | SEQ WHERE ANY")
}

// P6.1, P6.2: all short rows of tokens, one of each sort.
func TestReadShortRows(t *testing.T) {
	rules := allRules()
	sorts := strings.Fields("OR NOT = + - * ( ) REAL COUNT MAX TRUE TIME . a 1 , SEQ")
	rows := []string{""}
	for range 3 {
		longer := []string{}
		for _, row := range rows {
			for _, s := range sorts {
				longer = append(longer, row+" "+s)
			}
		}
		rows = longer
		for _, row := range rows {
			holdRead(t, rules, row)
		}
	}
}

// P6.1, P6.2: rows of tokens of expressions, and what they become where some tokens are changed.
func TestReadRows(t *testing.T) {
	r, rules, all := random(), allRules(), tokens()
	for i := range 1500 {
		text := allBrackets(t, randomTree(r, 1+r.IntN(7), 6))
		if i%2 == 0 {
			text, _ = expr.Print(randomTree(r, 1+r.IntN(9), 12))
		}
		l, _, _ := lex.Scan(text)
		row := []string{}
		for _, x := range l {
			row = append(row, lex.Spell(x))
		}
		for range r.IntN(4) {
			at := r.IntN(len(row))
			switch r.IntN(3) {
			case 0:
				row = slices.Delete(row, at, at+1)
			case 1:
				row = slices.Insert(row, at, all[r.IntN(len(all))])
			case 2:
				row[at] = all[r.IntN(len(all))]
			}
			row = append(row, "")
		}
		holdRead(t, rules, strings.Join(row, " "))
	}
}

// P6.1: the trees, by texts in which brackets leave nothing open.
func TestReadTrees(t *testing.T) {
	r := random()
	for range 4000 {
		e := randomTree(r, 1+r.IntN(25), api.MaxDeep)
		text := allBrackets(t, e)
		if len(text) > api.MaxText {
			continue
		}
		got, at, err := expr.Parse(text)
		if !equal(unplaced(got), e) || at != 0 || err != api.OK {
			t.Fatalf("Parse(%q): %v, %d, %d, wanted %v", text, got, at, err, e)
		}
	}
}
