package query_test

import (
	"math/rand/v2"
	"slices"
	"strings"
	"testing"

	"auspice/api"
	"auspice/expr"
	"auspice/lex"
	"auspice/query"
)

// table is the chapter's grammar, by where a query has been read to: a place a line, then each token that may stand there, and where that leads. NAME, INT and END are tokens of these kinds.
const table = `
start: PATTERN branch
branch: SEQ open
open: ( item
item: NAME type | ! not
not: NAME name
type: NAME itemEnd | + name
name: NAME itemEnd
itemEnd: , item | ) branchEnd
branchEnd: STROKE branch | WHERE where | STRATEGY strategy
whereEnd: STRATEGY strategy
strategy: STRICT within | NEXT within | ANY within
within: WITHIN number
number: INT end
end: PARTITION by | END done
by: BY key
key: NAME last
last: END done
`

// allSteps are where each token leads, by the place and the token.
func allSteps() map[[2]string]string {
	m := map[[2]string]string{}
	for line := range strings.Lines(strings.TrimSpace(table)) {
		from, steps, _ := strings.Cut(strings.TrimSpace(line), ": ")
		for step := range strings.SplitSeq(steps, " | ") {
			token, to, _ := strings.Cut(step, " ")
			m[[2]string{from, token}] = to
		}
	}
	return m
}

// called is what a token is called in the table.
func called(t api.Token) string {
	switch {
	case t.Kind == api.TokName:
		return "NAME"
	case t.Kind == api.TokInt:
		return "INT"
	case t.Kind == api.TokEnd:
		return "END"
	case t.Kind == api.TokWord || t.Kind == api.TokSign && t.Text != "|":
		return t.Text
	case t.Kind == api.TokSign:
		return "STROKE"
	}
	return "another"
}

// wantedFault is what the chapter says of tokens, but for the bound of the nodes.
func wantedFault(steps map[[2]string]string, l []api.Token) (int, api.Errno) {
	branches, items, place := 0, 0, "start"
	for at := 0; place != "done"; at++ {
		from := place
		if from == "where" {
			_, next, fault, err := expr.Read(l, at)
			if err != api.OK {
				return fault, err
			}
			at, from = next, "whereEnd"
		}
		place = steps[[2]string{from, called(l[at])}]
		switch {
		case place == "":
			return l[at].At, api.ErrSyntax
		case from == "branch":
			branches, items = branches+1, 0
		case from == "item":
			items++
		}
		if branches > api.MaxBranches || items > api.MaxItems {
			return l[at].At, api.ErrLong
		}
		if from == "number" && l[at].N > api.MaxTime {
			return l[at].At, api.ErrArg
		}
	}
	return 0, api.OK
}

// heldNames are the names of a query's items and key, as they stand in its text.
func heldNames(q api.Query) []string {
	l := []string{}
	for _, items := range q.Branches {
		for _, i := range items {
			l = append(l, i.Type, i.Name)
		}
	}
	if q.Key != "" {
		l = append(l, q.Key)
	}
	return l
}

// writtenNames are those that a query's tokens have outside its conditions.
func writtenNames(l []api.Token) []string {
	names, inside := []string{}, true
	for _, x := range l {
		switch {
		case x.Kind == api.TokWord && x.Text == "WHERE":
			inside = false
		case x.Kind == api.TokWord && x.Text == "STRATEGY":
			inside = true
		case x.Kind == api.TokName && inside:
			names = append(names, x.Text)
		}
	}
	return names
}

// holdParse holds Parse of a text against the table, and reports whether it is a query.
func holdParse(t *testing.T, steps map[[2]string]string, text string) bool {
	t.Helper()
	l, _, err := lex.Scan(text)
	if err != api.OK {
		t.Fatalf("no tokens: %q", text)
	}
	wantedAt, wanted := wantedFault(steps, l)
	q, at, err := query.Parse(text)
	if at != wantedAt || err != wanted {
		t.Fatalf("Parse(%q): %d at %d, wanted %d at %d", text, err, at, wanted, wantedAt)
	}
	if err == api.OK && !slices.Equal(heldNames(q), writtenNames(l)) {
		t.Fatalf("Parse(%q): %v", text, q)
	}
	if err != api.OK && dump(q) != dump(api.Query{}) {
		t.Fatalf("Parse(%q): %v beside an error", text, q)
	}
	return err == api.OK
}

// randomQuery is a query's text; now and then it passes a bound.
func randomQuery(r *rand.Rand) string {
	names := strings.Fields("A B C a b n_1")
	name := func() string { return names[r.IntN(len(names))] }
	branches := []string{}
	for range 1 + r.IntN(api.MaxBranches+1)*r.IntN(2) {
		items := []string{}
		for range 1 + r.IntN(api.MaxItems+1)*r.IntN(2) {
			items = append(items, [3]string{"", "", "!"}[r.IntN(3)]+name()+" "+name())
			if last := len(items) - 1; items[last][0] != '!' && r.IntN(2) == 0 {
				items[last] = strings.Replace(items[last], " ", "+ ", 1)
			}
		}
		branches = append(branches, "SEQ("+strings.Join(items, ",")+")")
	}
	text := "PATTERN " + strings.Join(branches, "|")
	if r.IntN(2) == 0 {
		text += " WHERE " + randomText(r, r.IntN(4))
	}
	text += " STRATEGY " + [3]string{"STRICT", "NEXT", "ANY"}[r.IntN(3)] + " WITHIN " + [4]string{"0", "7", "1152921504606846976", "1152921504606846977"}[r.IntN(4)]
	if r.IntN(2) == 0 {
		text += " PARTITION BY " + name()
	}
	return text
}

// P7.1: queries, and what they become where some tokens are changed.
func TestParseRows(t *testing.T) {
	r, steps, read := random(), allSteps(), 0
	all := strings.Fields("PATTERN SEQ WHERE STRATEGY WITHIN PARTITION BY STRICT NEXT ANY AND TRUE TIME COUNT A a 1 1.5 'ann' ( ) , . + - = ! != |")
	for i := range 8000 {
		l, _, _ := lex.Scan(randomQuery(r))
		row := []string{}
		for _, x := range l {
			row = append(row, lex.Spell(x))
		}
		for range i % 4 {
			at := r.IntN(len(row))
			switch r.IntN(4) {
			case 0:
				row = slices.Delete(row, at, at+1)
			case 1:
				row = slices.Insert(row, at, all[r.IntN(len(all))])
			case 2:
				row[at] = all[r.IntN(len(all))]
			case 3:
				row = row[:at]
			}
			row = append(row, "")
		}
		if holdParse(t, steps, strings.Join(row, " ")) {
			read++
		}
	}
	if read < 1000 {
		t.Errorf("only %d are queries", read)
	}
}

// P7.1: all tokens behind each beginning of a query.
func TestParseNextToken(t *testing.T) {
	steps := allSteps()
	whole := strings.Fields("PATTERN SEQ ( A a , ! B b , C + c ) | SEQ ( A d ) WHERE a . x = 1 AND NOT TRUE STRATEGY NEXT WITHIN 5 PARTITION BY k")
	all := strings.Fields("PATTERN SEQ WHERE STRATEGY WITHIN PARTITION BY STRICT NEXT ANY AND OR NOT TRUE FALSE TIME REAL ISNAN COUNT FIRST LAST SUM MIN MAX MEAN A 1 1.5 'ann' != <= >= ( ) , . + - * / % = < > ! |")
	for i := range len(whole) + 1 {
		begin := strings.Join(whole[:i], " ")
		holdParse(t, steps, begin)
		for _, next := range all {
			holdParse(t, steps, begin+" "+next)
			holdParse(t, steps, begin+" "+next+" "+strings.Join(whole[i:], " "))
		}
	}
}
