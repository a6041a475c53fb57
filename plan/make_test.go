package plan_test

import (
	"math"
	"slices"
	"strings"
	"testing"

	"auspice/api"
	"auspice/plan"
	"auspice/sample"
)

// P8.1: branches, parts and all that isn't a condition.
func TestMake(t *testing.T) {
	for text, wanted := range map[string]api.Plan{
		"PATTERN SEQ(A a) STRATEGY ANY WITHIN 0": {
			Strategy: api.Any, Branches: []api.Branch{{Parts: []api.Part{{Form: api.One}}}},
		},
		"PATTERN SEQ(C a, B+ b, !D c, !A d) | SEQ(B e, D f) STRATEGY STRICT WITHIN 1152921504606846976": {
			Strategy: api.Strict, Branches: []api.Branch{
				{Window: 1 << 60, Parts: []api.Part{{Form: api.One, Type: 2}, {Form: api.Many, Type: 1}, {Form: api.Not, Type: 3}, {Form: api.Not, Type: 0}}},
				{Id: 1, Window: 1 << 60, Parts: []api.Part{{Form: api.One, Type: 1}, {Form: api.One, Type: 3}}},
			},
		},
		"PATTERN SEQ(A A, B B)|SEQ(A k)|SEQ(A x)|SEQ(A+ a) STRATEGY NEXT WITHIN 5 PARTITION BY k": {
			Strategy: api.Next, Keys: []int{0, 1, -1, -1}, Branches: []api.Branch{
				{Window: 5, Parts: []api.Part{{Form: api.One}, {Form: api.One, Type: 1}}},
				{Id: 1, Window: 5, Parts: []api.Part{{Form: api.One}}},
				{Id: 2, Window: 5, Parts: []api.Part{{Form: api.One}}},
				{Id: 3, Window: 5, Parts: []api.Part{{Form: api.Many}}},
			},
		},
	} {
		if got := made(t, text); dump(got) != dump(wanted) || !plan.Same(got, wanted) {
			t.Errorf("Make(%q): %+v, wanted %+v", text, got, wanted)
		}
	}
}

// P8.1: each leaf and each sort of operator as a node.
func TestMakeNodes(t *testing.T) {
	const branch = "SEQ(A a, A+ m, B+ n, A z)"
	yes := constant(sample.Bool(1))
	same := func(n api.Node) api.Node { return op(api.OpEq, api.Bool, n, n) }
	for text, wanted := range map[string]api.Node{
		"z.b":                 cur(3, api.Bool),
		"z.TIME = z.TIME":     same(cur(-1, api.Int)),
		"z.s = z.s":           same(cur(4, api.Sym)),
		"z.b = a.b":           op(api.OpEq, api.Bool, cur(3, api.Bool), from(api.Of, 0, 3, api.Bool)),
		"z.x = a.TIME":        op(api.OpEq, api.Bool, cur(1, api.Int), from(api.Of, 0, -1, api.Int)),
		"z.k = 7":             op(api.OpEq, api.Bool, cur(0, api.Int), number(7)),
		"z.s = 'ann'":         op(api.OpEq, api.Bool, cur(4, api.Sym), constant(sample.Sym(0))),
		"z.s != 'bob'":        op(api.OpNe, api.Bool, cur(4, api.Sym), constant(sample.Sym(1))),
		"z.r < 1.0":           op(api.OpLt, api.Bool, cur(2, api.Real), constant(sample.Real(sample.One))),
		"z.r < 1.50":          op(api.OpLt, api.Bool, cur(2, api.Real), constant(sample.Real(0x3ff8000000000000))),
		"z.r < 0.1":           op(api.OpLt, api.Bool, cur(2, api.Real), constant(sample.Real(0x3fb999999999999a))),
		"z.b = FALSE":         op(api.OpEq, api.Bool, cur(3, api.Bool), constant(sample.Bool(0))),
		"z.b OR TRUE":         op(api.OpOr, api.Bool, cur(3, api.Bool), yes),
		"NOT (z.b AND TRUE)":  op(api.OpNot, api.Bool, op(api.OpAnd, api.Bool, cur(3, api.Bool), yes)),
		"z.x > COUNT(m)":      op(api.OpGt, api.Bool, cur(1, api.Int), count(1)),
		"z.x >= COUNT(n)":     op(api.OpGe, api.Bool, cur(1, api.Int), count(2)),
		"z.s = FIRST(m.s)":    op(api.OpEq, api.Bool, cur(4, api.Sym), from(api.First, 1, 4, api.Sym)),
		"z.b = LAST(m.b)":     op(api.OpEq, api.Bool, cur(3, api.Bool), from(api.Last, 1, 3, api.Bool)),
		"z.x <= SUM(m.k)":     op(api.OpLe, api.Bool, cur(1, api.Int), from(api.Sum, 1, 0, api.Int)),
		"z.r = SUM(n.x)":      op(api.OpEq, api.Bool, cur(2, api.Real), from(api.Sum, 2, 0, api.Real)),
		"z.x = MIN(m.TIME)":   op(api.OpEq, api.Bool, cur(1, api.Int), from(api.Min, 1, -1, api.Int)),
		"z.r = MAX(m.r)":      op(api.OpEq, api.Bool, cur(2, api.Real), from(api.Max, 1, 2, api.Real)),
		"z.r = MEAN(n.x)":     op(api.OpEq, api.Bool, cur(2, api.Real), from(api.Mean, 2, 0, api.Real)),
		"z.x = FIRST(n.TIME)": op(api.OpEq, api.Bool, cur(1, api.Int), from(api.First, 2, -1, api.Int)),
		"ISNAN(-z.r)":         op(api.OpNan, api.Bool, op(api.OpNeg, api.Real, cur(2, api.Real))),
		"REAL(z.x) < z.r":     op(api.OpLt, api.Bool, op(api.OpReal, api.Real, cur(1, api.Int)), cur(2, api.Real)),
		"-z.x % 2 * 3 / 4 + 5 - 9223372036854775807 = 0": op(api.OpEq, api.Bool, op(api.OpSub, api.Int, op(api.OpAdd, api.Int, op(api.OpDiv, api.Int, op(api.OpMul, api.Int, op(api.OpMod, api.Int,
			op(api.OpNeg, api.Int, cur(1, api.Int)), number(2)), number(3)), number(4)), number(5)), number(math.MaxInt64)), number(0)),
	} {
		p := made(t, where(branch, text))
		if got := p.Branches[0].Parts[3].Guards; dump(got) != dump([]api.Node{wanted}) {
			t.Errorf("%q: %+v, wanted %+v", text, got, wanted)
		}
	}
}

// P8.1: with which part each condition is put, + behind a name telling its Closes.
func TestMakePlaces(t *testing.T) {
	const branches = "SEQ(A a, B+ b, !A n, A c, !A o, A+ d, !B p) | SEQ(B e, A+ f, !C g)"
	for text, wanted := range map[string]string{
		"TRUE": "a e", "1 = 2": "a e", "NOT (1 < 2 OR ISNAN(0.5))": "a e", "'ann' = 'bob'": "a e",
		"a.x = 1": "a", "a.TIME < 5": "a", "c.b": "c", "c.x = a.x": "c", "a.x = c.x": "c", "e.x > 0.5": "e",
		"b.x > 0.5": "b", "b.x > 0.5 OR a.b": "b", "b.x > LAST(b.x)": "b", "b.x > 0.5 OR COUNT(b) = 0": "b", "b.x > MEAN(b.x) + a.r": "b", "b.TIME - FIRST(b.TIME) > a.TIME": "b",
		"COUNT(b) > 1": "b+", "MEAN(b.x) < 2.0": "b+", "COUNT(b) > a.x": "b+", "a.x < COUNT(b)": "b+", "SUM(b.x) = MIN(b.x)": "b+",
		"COUNT(b) > c.x": "c", "c.r > LAST(b.x)": "c", "c.x = a.x + COUNT(b)": "c",
		"n.b": "n", "n.x = a.x": "n", "n.r > LAST(b.x)": "n", "a.x + COUNT(b) = n.x": "n", "n.x = n.k": "n",
		"o.x = c.x": "o", "o.x = a.x": "o", "o.r = MAX(b.x)": "o", "c.x = o.x": "o",
		"d.x = 1": "d", "d.x = c.x": "d", "d.x > COUNT(b)": "d", "d.b OR COUNT(d) > 5 AND a.b": "d", "d.x > LAST(d.x)": "d", "COUNT(d) > COUNT(b)": "d+", "COUNT(b) > COUNT(d)": "d+", "SUM(d.x) = c.x": "d+", "c.x = SUM(d.x)": "d+",
		"p.x > 0.5": "p", "p.x > REAL(COUNT(d))": "p", "LAST(b.x) < p.x": "p", "p.x > a.r AND c.b OR FALSE": "p",
		"f.x = e.k": "f", "COUNT(f) > 3": "f+", "REAL(SUM(f.x)) > e.x": "f+", "g.TIME > e.TIME": "g", "g.TIME > COUNT(f)": "g",
	} {
		p := made(t, where(branches, text))
		if got := placesOf(p, "abncodp efg"); got != wanted {
			t.Errorf("%q: put with %q, wanted %q", text, got, wanted)
		}
	}
}

// placesOf tells with which parts conditions are put, names being the letters of the items of each branch.
func placesOf(p api.Plan, names string) string {
	l := []string{}
	for i, branch := range strings.Fields(names) {
		for j, part := range p.Branches[i].Parts {
			l = append(l, slices.Repeat([]string{branch[j : j+1]}, len(part.Guards))...)
			l = append(l, slices.Repeat([]string{branch[j:j+1] + "+"}, len(part.Closes))...)
		}
	}
	return strings.Join(l, " ")
}

// P8.1: conditions of one part in their order, among others'.
func TestMakeOrder(t *testing.T) {
	p := made(t, where("SEQ(A a, B+ b, !A n, A c) | SEQ(A d)", "TRUE AND c.x = 1 AND COUNT(b) = 2 AND 3 = 3 AND b.x > 0.5 AND n.x = 4 AND a.x = 5 AND (c.x = COUNT(b) AND (COUNT(b) = 6 OR FALSE)) AND n.x = a.x AND b.x > a.r AND FALSE"))
	equal := func(a, b api.Node) api.Node { return op(api.OpEq, api.Bool, a, b) }
	more := func(a, b api.Node) api.Node { return op(api.OpGt, api.Bool, a, b) }
	yes, no, x, three := constant(sample.Bool(1)), constant(sample.Bool(0)), cur(1, api.Int), equal(number(3), number(3))
	wanted := api.Plan{Strategy: api.Any, Branches: []api.Branch{
		{Window: 9, Parts: []api.Part{
			{Form: api.One, Guards: []api.Node{yes, three, equal(x, number(5)), no}},
			{Form: api.Many, Type: 1, Guards: []api.Node{more(cur(0, api.Real), constant(sample.Real(0x3fe0000000000000))), more(cur(0, api.Real), from(api.Of, 0, 2, api.Real))}, Closes: []api.Node{equal(count(1), number(2)), op(api.OpOr, api.Bool, equal(count(1), number(6)), no)}},
			{Form: api.Not, Guards: []api.Node{equal(x, number(4)), equal(x, from(api.Of, 0, 1, api.Int))}},
			{Form: api.One, Guards: []api.Node{equal(x, number(1)), equal(x, count(1))}},
		}},
		{Id: 1, Window: 9, Parts: []api.Part{{Form: api.One, Guards: []api.Node{yes, three, no}}}},
	}}
	if dump(p) != dump(wanted) {
		t.Errorf("%+v, wanted %+v", p, wanted)
	}
}

// P8.1: positions count One and Many alone, in each branch from 0 on.
func TestMakePositions(t *testing.T) {
	p := made(t, where("SEQ(A a, !C n, A+ b, !C o, !C p, A c, !A q) | SEQ(A d, !C r, A+ e, A f)", "q.x = a.x + COUNT(b) + c.x AND f.x = d.x + LAST(e.x) AND c.x = COUNT(b)"))
	for _, c := range []struct {
		branch, part int
		wanted       []int
	}{{0, 6, []int{0, 1, 2}}, {0, 5, []int{1}}, {1, 3, []int{0, 1}}} {
		got := []int{}
		for _, n := range p.Branches[c.branch].Parts[c.part].Guards {
			got = append(got, positions(n)...)
		}
		if !slices.Equal(got, c.wanted) {
			t.Errorf("branch %d, part %d: looks at %v, wanted %v", c.branch, c.part, got, c.wanted)
		}
	}
}

// positions are those that a node's leaves look at.
func positions(n api.Node) []int {
	l := []int{}
	for _, arg := range n.Args {
		l = append(l, positions(arg)...)
	}
	if n.Op == api.Of || n.Op >= api.Count && n.Op <= api.Mean {
		l = append(l, n.Pos)
	}
	return l
}

// P8.1: the items' errors.
func TestMakeItems(t *testing.T) {
	const end = " STRATEGY ANY WITHIN 1"
	for _, text := range []string{
		"PATTERN SEQ(^a a)", "PATTERN SEQ(^AA a)", "PATTERN SEQ(A a, ^X b)", "PATTERN SEQ(A a, ^!X b)", "PATTERN SEQ(A a, ^X+ a)", "PATTERN SEQ(^!X b)", "PATTERN SEQ(A a) | SEQ(B b, ^E c)",
		"PATTERN SEQ(A a, ^B a)", "PATTERN SEQ(A a, B b, ^!A a)", "PATTERN SEQ(A a) | SEQ(^A a)", "PATTERN SEQ(A a) | SEQ(A b, ^A+ a)", "PATTERN SEQ(A a) | SEQ(^!A a)",
		"PATTERN SEQ(A a, ^B a, X c)", "PATTERN SEQ(A a, ^A a) | SEQ(!A b)",
	} {
		wantFault(t, text+end, api.ErrName)
	}
	for _, text := range []string{"PATTERN SEQ(^!A a)", "PATTERN SEQ(^!A a, X b)", "PATTERN SEQ(A b) | SEQ(^!A a, A a)", "PATTERN SEQ(^!A a, A b) | SEQ(X c)"} {
		wantFault(t, text+end, api.ErrPlace)
	}
	made(t, "PATTERN SEQ(A B, B A, C ann) | SEQ(D k)"+end)
}

// P8.1: the key's errors, behind all items' and ahead of all conditions'.
func TestMakeKeys(t *testing.T) {
	const end = " STRATEGY ANY WITHIN 1 PARTITION BY "
	for text, wanted := range map[string][]int{
		"SEQ(A a)" + end + "k":       {0, 1, -1, -1},
		"SEQ(B b, !A a)" + end + "k": {0, 1, -1, -1},
		"SEQ(D d)" + end + "k":       {-1, -1, -1, 1},
		"SEQ(A a)" + end + "x":       {1, -1, -1, -1},
		"SEQ(B a)" + end + "x":       {-1, 0, -1, -1},
		"SEQ(A a, D+ d)" + end + "s": {4, -1, -1, 0},
		"SEQ(A a)" + end + "r":       {2, -1, -1, -1},
	} {
		if p := made(t, "PATTERN "+text); !slices.Equal(p.Keys, wanted) {
			t.Errorf("%q: keys %v, wanted %v", text, p.Keys, wanted)
		}
	}
	for _, text := range []string{"SEQ(A a)" + end + "^z", "SEQ(A a)" + end + "^A", "SEQ(A a)" + end + "^a", "SEQ(C c)" + end + "^k", "SEQ(A a, C c)" + end + "^k", "SEQ(C c, A a)" + end + "^k", "SEQ(A a, !C c)" + end + "^k", "SEQ(A a) | SEQ(B b, C c)" + end + "^k", "SEQ(A a, C c, D d)" + end + "^k", "SEQ(C c, A a, D d)" + end + "^k", "SEQ(A a) WHERE zz.x" + end + "^z"} {
		wantFault(t, "PATTERN "+text, api.ErrName)
	}
	for _, text := range []string{"SEQ(A a, D d)" + end + "^k", "SEQ(D a, B d)" + end + "^k", "SEQ(A a, B b, !D d)" + end + "^k", "SEQ(A a) | SEQ(D d)" + end + "^k", "SEQ(A a, D d, C c)" + end + "^k", "SEQ(A a, B b)" + end + "^x", "SEQ(A a, D d) WHERE zz.x" + end + "^k"} {
		wantFault(t, "PATTERN "+text, api.ErrKind)
	}
	wantFault(t, "PATTERN SEQ(A a, ^X c)"+end+"z", api.ErrName)
	wantFault(t, "PATTERN SEQ(A a, D d) | SEQ(^!A c)"+end+"k", api.ErrPlace)
}

// P8.1: the conditions' errors, node by node.
func TestMakeConditions(t *testing.T) {
	const branches = "SEQ(A a, B+ b, !A n, A c) | SEQ(A d)"
	for wanted, texts := range map[api.Errno][]string{
		api.ErrName: {
			"^z.x = 1", "^A.x = 1", "a.x = ^z.x", "COUNT(b) = ^COUNT(z)", "^FIRST(z.x) = 1", "^COUNT(A) = 1", "a.b AND ^aa.b",
			"^a.z = 1", "^a.y", "b.x > ^b.r", "n.x = ^a.a", "^SUM(b.r) = 1", "^MEAN(b.z) = 1", "COUNT(b) = 1 AND ^LAST(b.s) = 'ann'", "^MEAN(a.z) = 1.0", "^FIRST(n.z)",
			"a.s = ^'eve'", "^'eve' = a.s", "^'Ann' = 'ann'", "^'A' = 'ann'",
			"^z.x + TRUE = 1", "(^z.x + 'eve') * TRUE", "-^z.x", "NOT ^z.x = 1", "ISNAN(REAL(^z.x))",
			"a.x + 1 = ^z.x AND TRUE + 1", "(TRUE AND ^zz.b) = (1 + TRUE)",
		},
		api.ErrKind: {
			"^COUNT(a) = 1", "^COUNT(n) = 1", "^FIRST(a.x) = 1", "^LAST(n.x) = 1", "^SUM(a.x) = 1", "^MEAN(c.r) = 1.0", "^MAX(n.b)",
			"^MEAN(b.k) = 1.0", "^MEAN(b.TIME) = 1.0",
			"a.x ^= b.x", "a.x ^= TRUE", "a.x ^+ 1.0 = 2", "a.x ^+ 1.0 = 2.0", "^-a.b", "^-'ann' = 'ann'", "^NOT 1", "^NOT a.x", "^REAL(a.r) = 1.0", "^ISNAN(a.x)", "a.r ^% 2.0 = 1.0", "a.b ^< a.b", "a.s ^>= 'ann'", "a.s ^+ a.s = a.s", "a.x ^OR TRUE", "NOT (TRUE ^AND 1)", "TRUE ^OR 'ann'", "a.x ^!= a.b",
			"(1 ^+ TRUE) * zz.x", "(a.x ^+ TRUE = 1) = (2 + FALSE = 2)", "-(a.b ^= 1) = zz.x", "(^COUNT(a) + COUNT(z)) * TRUE",
			"^1", "^a.x", "^'ann'", "^0.5", "a.x ^+ 1", "TRUE AND ^1", "^COUNT(b)", "^MEAN(b.x)", "^-1", "^REAL(1)", "a.b AND a.x ^* c.x", "d.x ^+ a.x", "n.x ^+ c.x",
		},
		api.ErrPlace: {
			"a.x ^= d.x", "a.b AND d.x ^> COUNT(b)", "d.x ^= n.x",
			"n.x ^= c.x", "c.x ^= n.x", "n.x + a.x ^> c.x", "n.r ^> b.x", "b.x ^> n.r", "n.x ^= a.x + b.k", "(n.b ^OR b.x > 0.5)", "n.b ^OR COUNT(b) > 1 AND c.b",
			"b.x ^> c.r", "c.r ^> b.x", "c.x ^= b.k + a.x",
		},
	} {
		for _, text := range texts {
			wantFault(t, where(branches, text), wanted)
		}
	}
}

// P8.1: SUM, MIN and MAX, of attributes of all kinds.
func TestMakeSums(t *testing.T) {
	for _, word := range []string{"SUM", "MIN", "MAX", "MEAN", "FIRST", "LAST"} {
		for field, good := range map[string]string{"x": "SUM MIN MAX FIRST LAST", "TIME": "SUM MIN MAX FIRST LAST", "r": "SUM MIN MAX MEAN FIRST LAST", "b": "FIRST LAST", "s": "FIRST LAST"} {
			text := word + "(m." + field + ")"
			if strings.Contains(good, word) {
				made(t, where("SEQ(A+ m)", text+" = "+text))
			} else {
				wantFault(t, where("SEQ(A+ m)", "^"+text+" = "+text), api.ErrKind)
			}
		}
	}
}

// P8.1: conditions with several Manys and several Nots.
func TestMakeHomes(t *testing.T) {
	const branches = "SEQ(A a, A+ b, !A n, A+ c, !A o, A d)"
	for _, text := range []string{
		"b.x ^= c.x", "c.x + b.x ^= 1", "b.x ^= COUNT(c)", "LAST(c.x) ^> b.x", "b.x + b.k ^= LAST(c.x)", "b.x ^= d.x", "d.b ^OR b.b", "c.b ^OR COUNT(b) = 1 AND b.b",
		"n.x ^= o.x", "o.x + n.x ^= a.x", "n.x ^= LAST(c.x)", "COUNT(c) ^= n.x", "o.x ^= d.x", "o.b ^OR c.b", "o.b ^OR b.b", "n.b ^OR b.b", "n.b OR b.b ^OR COUNT(b) = 1", "n.b ^OR n.x = COUNT(b) + b.x",
	} {
		wantFault(t, where(branches, text), api.ErrPlace)
	}
	for text, wanted := range map[string]string{
		"c.x = COUNT(b)": "c", "c.x = COUNT(b) + COUNT(c) + a.x": "c", "b.x = COUNT(b)": "b", "COUNT(b) = COUNT(c)": "c+", "COUNT(c) = LAST(b.x) + a.x": "c+", "d.x = COUNT(b) * LAST(c.x)": "d", "o.x = COUNT(b) * COUNT(c)": "o", "n.x = COUNT(b) - a.x": "n",
	} {
		if got := placesOf(made(t, where(branches, text)), "abncod"); got != wanted {
			t.Errorf("%q: put with %q, wanted %q", text, got, wanted)
		}
	}
}

// P8.1: which of several conditions' errors is the first.
func TestMakeFirst(t *testing.T) {
	const branches = "SEQ(A a, B+ b, !A n, A c) | SEQ(A d)"
	wantFault(t, where(branches, "a.x ^= d.x AND zz.x = 1"), api.ErrPlace)
	wantFault(t, where(branches, "^a.x AND zz.x = 1"), api.ErrKind)
	wantFault(t, where(branches, "^zz.x = 1 AND a.x"), api.ErrName)
	wantFault(t, where(branches, "a.x = 1 AND n.x ^= c.x AND d.x = a.x"), api.ErrPlace)
	wantFault(t, where(branches, "a.x ^+ d.x AND TRUE"), api.ErrKind)
	wantFault(t, "PATTERN SEQ(A a, ^A a) WHERE zz.x STRATEGY ANY WITHIN 1", api.ErrName)
	wantFault(t, "PATTERN SEQ(^!A a) WHERE zz.x STRATEGY ANY WITHIN 1", api.ErrPlace)
}

// P8.1: the schema's errors, then Print's of the query, ahead of all others.
func TestMakeArguments(t *testing.T) {
	good, bad := parsed(t, "PATTERN SEQ(A a) STRATEGY ANY WITHIN 1"), parsed(t, "PATTERN SEQ(X a) STRATEGY ANY WITHIN 1")
	refused := func(what string, s api.Schema, q api.Query, wanted api.Errno) {
		t.Helper()
		if p, at, err := plan.Make(s, q); dump(p) != dump(api.Plan{}) || at != 0 || err != wanted {
			t.Errorf("%s: %v, %d at %d, wanted %d", what, p, err, at, wanted)
		}
	}
	long, twice, kinds := market(), market(), market()
	long.Types = append(long.Types, make([]api.Type, api.MaxTypes)...)
	twice.Syms = append(twice.Syms, "ann")
	kinds.Types[3].Fields[0].Kind = 5
	ill, many, deep := bad, bad, bad
	ill.Window = -1
	many.Branches = slices.Repeat(bad.Branches, 5)
	not := api.Expr{Op: api.LitBool}
	for range api.MaxDeep + 1 {
		not = api.Expr{Op: api.OpNot, Args: []api.Expr{not}}
	}
	deep.Where = []api.Expr{not}
	for _, q := range []api.Query{good, bad, ill, many, deep, {}} {
		refused("too many types", long, q, api.ErrLong)
		refused("a symbol twice", twice, q, api.ErrName)
		refused("no kind", kinds, q, api.ErrKind)
	}
	for _, s := range []api.Schema{market(), {}} {
		refused("no query", s, api.Query{}, api.ErrForm)
		refused("no window", s, ill, api.ErrForm)
		refused("too many branches", s, many, api.ErrLong)
		refused("too deep", s, deep, api.ErrDeep)
	}
	if _, at, err := plan.Make(api.Schema{}, good); at != 12 || err != api.ErrName {
		t.Errorf("by no schema: %d at %d", err, at)
	}
	leaf := strings.Repeat("n", api.MaxName) + "." + strings.Repeat("x", api.MaxName)
	dense := parsed(t, "PATTERN SEQ(A a) WHERE "+strings.Repeat(leaf+"+", 77)+leaf+" STRATEGY ANY WITHIN 1")
	refused("too long as it is printed", market(), dense, api.ErrLong)
}

// P8.1: places are the query's own, whatever they are.
func TestMakeHandMadePlaces(t *testing.T) {
	q := api.Query{Branches: [][]api.Item{{{Form: api.One, Type: "A", Name: "a", At: 70}, {Form: api.One, Type: "A", Name: "a", At: -3}}}, Strategy: api.Any, Key: "z", KeyAt: math.MinInt}
	for _, c := range []struct {
		at  int
		err api.Errno
	}{{-3, api.ErrName}, {math.MinInt, api.ErrName}, {99, api.ErrKind}} {
		if _, at, err := plan.Make(market(), q); at != c.at || err != c.err {
			t.Errorf("%d at %d, wanted %d at %d", err, at, c.err, c.at)
		}
		if q.Branches[0][1].Name == "b" {
			q.Key, q.Where = "", []api.Expr{{Op: api.LitInt, At: 99}}
		}
		q.Branches[0][1].Name = "b"
	}
}
