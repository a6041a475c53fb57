package query_test

import (
	"math"
	"slices"
	"strings"
	"testing"

	"auspice/api"
	"auspice/query"
)

// P7.2
func TestNodes(t *testing.T) {
	for text, wanted := range map[string]int{
		"TRUE": 1, "a.x = 1": 3, "NOT a.x = 1": 4, "TRUE AND FALSE": 3, "TRUE AND FALSE AND a.x = 1": 7, "TRUE AND (FALSE AND (1 AND 2))": 7, "TRUE OR FALSE AND 1": 5, "COUNT(b) > MEAN(b.x) * 2 AND -1 = 2": 10, row(199): 199,
	} {
		if got := query.Nodes(parsed(t, "PATTERN SEQ(A a) WHERE "+text+" STRATEGY ANY WITHIN 1")); got != wanted {
			t.Errorf("%q: %d nodes, wanted %d", text, got, wanted)
		}
	}
	if got := query.Nodes(parsed(t, "PATTERN SEQ(A a, B b, !C c) | SEQ(A d) STRATEGY ANY WITHIN 9 PARTITION BY k")); got != 0 {
		t.Errorf("%d nodes without conditions", got)
	}
	for wanted, where := range map[int][]api.Expr{0: {}, 1: {{}}, 3: {{}, {}}, 8: {{}, {Op: -1, Args: make([]api.Expr, 3)}, {}}, 299999: make([]api.Expr, 150000), 200005: {{Args: make([]api.Expr, 100000)}, {}, {Args: make([]api.Expr, 100000)}}} {
		if got := query.Nodes(api.Query{Where: where}); got != wanted {
			t.Errorf("%d nodes, wanted %d", got, wanted)
		}
	}
}

// changed are copies of a query, each changed at one thing that isn't a place.
func changed(q api.Query) []api.Query {
	l := []api.Query{}
	add := func(change func(x *api.Query)) {
		x := copied(q)
		change(&x)
		l = append(l, x)
	}
	add(func(x *api.Query) { x.Strategy++ })
	add(func(x *api.Query) { x.Window ^= math.MinInt64 })
	add(func(x *api.Query) { x.Key += "k" })
	add(func(x *api.Query) { x.Branches = append(x.Branches, nil) })
	add(func(x *api.Query) { x.Branches = append([][]api.Item{nil}, x.Branches...) })
	add(func(x *api.Query) { x.Where = append(x.Where, api.Expr{}) })
	for i := range q.Where {
		add(func(x *api.Query) { x.Where = slices.Delete(x.Where, i, i+1) })
		add(func(x *api.Query) { x.Where[i].N-- })
		add(func(x *api.Query) { x.Where[i] = of(api.OpNot, x.Where[i]) })
	}
	for i := range q.Branches {
		add(func(x *api.Query) { x.Branches = slices.Delete(x.Branches, i, i+1) })
		add(func(x *api.Query) { x.Branches[i] = append(x.Branches[i], api.Item{}) })
		for j := range q.Branches[i] {
			add(func(x *api.Query) { x.Branches[i] = slices.Delete(x.Branches[i], j, j+1) })
			add(func(x *api.Query) { x.Branches[i][j].Form++ })
			add(func(x *api.Query) { x.Branches[i][j].Type += "T" })
			add(func(x *api.Query) { x.Branches[i][j].Name = "" })
		}
	}
	return l
}

// P7.2
func TestSame(t *testing.T) {
	l := []api.Query{{Branches: [][]api.Item{{}}, Key: "k"}, small()}
	for _, text := range []string{
		"PATTERN SEQ(A a, B+ b, !C c) | SEQ(A d) WHERE a.x = 1 AND b.x = 2 STRATEGY ANY WITHIN 9 PARTITION BY k",
		"PATTERN SEQ(A a, B+ b, !C c) | SEQ(A d) WHERE b.x = 2 AND a.x = 1 STRATEGY ANY WITHIN 9 PARTITION BY k",
		"PATTERN SEQ(A a, B+ b, !C c, A d) WHERE a.x = 1 AND b.x = 2 STRATEGY ANY WITHIN 9 PARTITION BY k",
		"PATTERN SEQ(A d) | SEQ(A a, B+ b, !C c) WHERE a.x = 1 AND b.x = 2 STRATEGY ANY WITHIN 9 PARTITION BY k",
	} {
		l = append(l, parsed(t, text))
	}
	for i, a := range l {
		if !query.Same(a, a) || !query.Same(a, moved(a)) || !query.Same(moved(a), a) {
			t.Errorf("not the same at other places: %v", a)
		}
		for _, x := range changed(a) {
			if query.Same(a, x) || query.Same(x, moved(a)) {
				t.Errorf("the same: %v, %v", a, x)
			}
		}
		for j, b := range l {
			if query.Same(a, b) != (i == j) {
				t.Errorf("Same of %v, %v", a, b)
			}
		}
	}
	if !query.Same(api.Query{}, api.Query{Branches: [][]api.Item{}, Where: []api.Expr{}}) || !query.Same(api.Query{Branches: [][]api.Item{{}}}, api.Query{Branches: [][]api.Item{nil}}) {
		t.Error("an empty list isn't as none")
	}
}

// P7.1, P7.2: how a query is written doesn't matter.
func TestSameText(t *testing.T) {
	a := parsed(t, "PATTERN SEQ(A a,B+b)WHERE a.x=1 AND(a.y=2 AND(a.z=3))STRATEGY ANY WITHIN 9 PARTITION BY k")
	b := parsed(t, "\nPATTERN SEQ ( A a , B + b ) WHERE ((a . x = 1) AND (a.y = 2)) AND a.z = 3 STRATEGY ANY WITHIN 9 PARTITION BY k ")
	if !query.Same(a, b) {
		t.Errorf("%v, %v", a, b)
	}
}

// P1: conditions that go round in a circle, that share, that are far deeper than any text's.
func TestOddConditions(t *testing.T) {
	circle := []api.Expr{{Op: api.OpNot}, {Op: api.OpAdd}}
	circle[0].Args, circle[1].Args = circle[:1], circle
	shared := api.Expr{Op: api.LitInt}
	for range 100 {
		shared = of(api.OpAdd, shared, shared)
	}
	far := deep(api.OpNeg, 100000, api.Expr{Op: api.LitInt})
	for _, where := range [][]api.Expr{circle, {shared, shared}, {far}, {far, shared, circle[1]}, slices.Repeat([]api.Expr{far}, 5)} {
		q := small()
		q.Where = where
		query.Nodes(q)
		if !query.Same(q, q) || query.Same(q, small()) {
			t.Error("Same of odd conditions")
		}
		wantNoPrint(t, "odd conditions", q, api.ErrLong)
		q.Where = append(slices.Clone(where), api.Expr{Op: api.LitBool, N: 2})
		wantNoPrint(t, "odd conditions, one of no form", q, api.ErrForm)
	}
}

// P1: queries with anything in them; what is printed is read back.
func TestOddQueries(t *testing.T) {
	r, printed := random(), 0
	number := func() int { return []int{math.MinInt, -1, 0, 1, 2, 3, 3, 2, 1, 4, 20, 24, math.MaxInt}[r.IntN(13)] }
	text := func() string { return []string{"", "a", "b1", "k", "A", "SEQ", "\xff", "a b"}[r.IntN(8)] }
	for range 30000 {
		q := api.Query{Strategy: number(), Window: int64(number()), Key: text(), KeyAt: number()}
		for range r.IntN(3) {
			items := []api.Item{}
			for range r.IntN(3) {
				items = append(items, api.Item{Form: number(), Type: text(), Name: text(), At: number()})
			}
			q.Branches = append(q.Branches, items)
		}
		for range r.IntN(2) {
			q.Where = append(q.Where, api.Expr{Op: number(), N: int64(number()), Name: text(), Attr: text(), At: number()})
		}
		query.Nodes(q)
		query.Same(q, q)
		if s, err := query.Print(q); err == api.OK {
			printed++
			if !query.Same(parsed(t, s), q) {
				t.Errorf("%q isn't read back as %v", s, q)
			}
		}
	}
	if printed == 0 {
		t.Error("none is printed")
	}
	many := api.Query{Branches: make([][]api.Item, 200000), Strategy: api.Any}
	for i := range many.Branches {
		many.Branches[i] = small().Branches[0]
	}
	wantNoPrint(t, "far too many branches", many, api.ErrLong)
	many.Branches = [][]api.Item{slices.Repeat(small().Branches[0], 200000)}
	wantNoPrint(t, "far too many items", many, api.ErrLong)
	many = small()
	many.Key = strings.Repeat("k", 1000000)
	wantNoPrint(t, "a key far too long", many, api.ErrForm)
}

// The rule on memory: queries aren't changed, spare room included.
func TestMemory(t *testing.T) {
	whole := parsed(t, "PATTERN SEQ(A a, B+ b, !C c) | SEQ(A d) WHERE a.x = 1 AND (b.x = 2 OR TRUE) AND NOT FALSE STRATEGY ANY WITHIN 9 PARTITION BY k")
	q, before := whole, dump(whole)
	q.Where, q.Branches = whole.Where[:2], whole.Branches[:1]
	query.Print(q)
	query.Nodes(q)
	query.Same(q, q)
	if dump(whole) != before {
		t.Errorf("%s, was %s", dump(whole), before)
	}
}
