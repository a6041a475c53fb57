package fold_test

import (
	"math"
	"math/rand/v2"
	"testing"

	"auspice/api"
	"auspice/eval"
	"auspice/fold"
	"auspice/sample"
	"auspice/value"
)

// P12.1: what a text becomes, told as a text.
func TestNodeTexts(t *testing.T) {
	for text, wanted := range map[string]string{
		// the chapter's examples
		"1 + 2 < a.x AND TRUE":  "3 < a.x",
		"a.x / 0 = 1":           "a.x / 0 = 1",
		"FALSE AND 1 / a.x > 0": "FALSE",
		"NOT NOT ISNAN(c.r)":    "ISNAN(c.r)",
		// all Args are Const
		"7 / 2 % 2 * 5 - 4 = c.x":            "1 = c.x",
		"REAL(3) + 0.5 < MEAN(b.r)":          "3.5 < MEAN(b.r)",
		"'ann' = 'ann'":                      "TRUE",
		"NOT 1 < 2":                          "FALSE",
		"ISNAN(0.5)":                         "FALSE",
		"ISNAN(0.0 / 0.0)":                   "TRUE",
		"FALSE OR FALSE":                     "FALSE",
		"TRUE AND TRUE":                      "TRUE",
		"TRUE AND 1 / 0 = 1 AND 2 < 1":       "FALSE",
		"1 / 0 = 1 OR 1 < 2":                 "TRUE",
		"1 + (2 + a.x) = 1 + 2 + a.x":        "1 + (2 + a.x) = 3 + a.x",
		"COUNT(b) + (1 + 1) > SUM(b.x) * -0": "COUNT(b) + 2 > SUM(b.x) * 0",
		// one operand is enough
		"a.b AND FALSE":                 "FALSE",
		"FALSE AND a.b":                 "FALSE",
		"TRUE OR a.b":                   "TRUE",
		"a.b OR TRUE":                   "TRUE",
		"a.b AND (c.b OR 2 > 1)":        "a.b",
		"(c.b AND 1 > 2) OR a.b":        "a.b",
		"NOT (c.b AND 1 > 2)":           "TRUE",
		"(a.b OR TRUE) = (FALSE = a.b)": "TRUE = (FALSE = a.b)",
		// the other one
		"a.b AND TRUE":                        "a.b",
		"TRUE AND a.b":                        "a.b",
		"FALSE OR a.b":                        "a.b",
		"a.b OR FALSE":                        "a.b",
		"TRUE AND (a.b OR FALSE)":             "a.b",
		"a.b AND c.b":                         "a.b AND c.b",
		"a.b OR c.b":                          "a.b OR c.b",
		"a.b = TRUE":                          "a.b = TRUE",
		"FALSE != a.b":                        "FALSE != a.b",
		"a.b AND (1 / 0 = 1 OR c.b OR 1 < 2)": "a.b",
		// NOT NOT
		"NOT c.b":                           "NOT c.b",
		"NOT NOT c.b":                       "c.b",
		"NOT NOT NOT c.b":                   "NOT c.b",
		"NOT NOT NOT NOT c.b":               "c.b",
		"NOT (TRUE AND NOT c.b)":            "c.b",
		"NOT (NOT (c.b OR FALSE) OR FALSE)": "c.b",
		"NOT NOT (a.b AND NOT NOT c.b)":     "a.b AND c.b",
		"- - a.x = 1":                       "- - a.x = 1",
		"NOT (NOT a.b AND NOT c.b)":         "NOT (NOT a.b AND NOT c.b)",
		// nothing of that
		"a.x - a.x = 0":     "a.x - a.x = 0",
		"a.x * 0 = 0":       "a.x * 0 = 0",
		"a.x + 0 = a.x":     "a.x + 0 = a.x",
		"a.x + 1 + 2 = c.x": "a.x + 1 + 2 = c.x",
		"c.x = c.x":         "c.x = c.x",
		"a.b AND NOT a.b":   "a.b AND NOT a.b",
		"TRUE":              "TRUE",
		"c.b":               "c.b",
	} {
		wantNode(t, text, node(t, text), node(t, wanted))
	}
}

// P12.1: what no text is.
func TestNodeConsts(t *testing.T) {
	yes, no := constant(sample.Bool(1)), constant(sample.Bool(0))
	b := node(t, "c.b")
	for text, wanted := range map[string]api.Node{
		"1 / 0 = 1":                            never(api.Bool),
		"9223372036854775807 + 1 > 0":          never(api.Bool),
		"TRUE AND 1 / 0 = 1":                   never(api.Bool),
		"(1 / 0 = 1 OR FALSE) AND c.b":         op(api.OpAnd, api.Bool, never(api.Bool), b),
		"c.b OR NOT 1 % 0 = 1":                 op(api.OpOr, api.Bool, b, never(api.Bool)),
		"c.b OR NOT NOT 1 % 0 = 1":             op(api.OpOr, api.Bool, b, never(api.Bool)),
		"c.x = 1 / 0":                          op(api.OpEq, api.Bool, node(t, "c.x = 0").Args[0], never(api.Int)),
		"c.x = -3":                             op(api.OpEq, api.Bool, node(t, "c.x = 0").Args[0], constant(sample.Int(-3))),
		"c.x = -9223372036854775807 - 1":       op(api.OpEq, api.Bool, node(t, "c.x = 0").Args[0], constant(sample.Int(math.MinInt64))),
		"c.r > 0.0 / 0.0":                      op(api.OpGt, api.Bool, node(t, "c.r > 0.0").Args[0], constant(sample.Real(sample.NaN))),
		"c.r > -(1.0 / 0.0)":                   op(api.OpGt, api.Bool, node(t, "c.r > 0.0").Args[0], constant(sample.Real(sample.Infinite|sample.SignBit))),
		"0.0 / 0.0 = 0.0 / 0.0":                no,
		"1.0 / 0.0 > 1.0 AND NOT TRUE = FALSE": yes,
	} {
		wantNode(t, text, node(t, text), wanted)
	}
}

// P12.1: nodes that layer 8 gives none of.
func TestNodeByHand(t *testing.T) {
	yes, no, odd := constant(sample.Bool(1)), constant(sample.Bool(0)), constant(sample.Bool(2))
	one, b := constant(sample.Int(1)), api.Node{Op: api.Cur, Kind: api.Bool, Attr: 3}
	for i, c := range []struct{ n, wanted api.Node }{
		// without Args
		{api.Node{}, api.Node{}},
		{op(api.OpAnd, api.Bool), op(api.OpAnd, api.Bool)},
		{api.Node{Op: api.OpNot, Kind: 7, Pos: 3, Attr: -9, Value: sample.Bool(1)}, api.Node{Op: api.OpNot, Kind: 7, Pos: 3, Attr: -9, Value: sample.Bool(1)}},
		{api.Node{Op: api.Const, Kind: 9, Pos: 1, Attr: 1, Value: sample.Sym(99)}, api.Node{Op: api.Const, Kind: 9, Pos: 1, Attr: 1, Value: sample.Sym(99)}},
		// all Args are Const: n's Kind, and nothing else of n
		{api.Node{Op: api.OpAdd, Kind: 7, Pos: 3, Attr: 4, Value: sample.Int(5), Args: []api.Node{one, one}}, api.Node{Op: api.Const, Kind: 7, Value: sample.Int(2)}},
		{op(api.OpAdd, api.Int, one, yes), never(api.Int)},
		{op(api.OpAdd, api.Int, one, one, one), never(api.Int)},
		{op(api.OpAdd, api.Int, one), never(api.Int)},
		{op(api.OpAnd, api.Bool, no), never(api.Bool)},
		{op(api.OpAnd, api.Bool, no, no, no), never(api.Bool)},
		{op(api.OpAnd, api.Bool, odd, yes), never(api.Bool)},
		{op(api.OpAnd, api.Bool, odd, no), no},
		{op(api.OpNot, api.Bool, odd), never(api.Bool)},
		{op(api.OpNan, api.Bool, constant(sample.Real(math.MaxUint64))), yes},
		{op(api.OpReal, api.Real, one), constant(sample.Real(sample.One))},
		{op(api.OpNot, api.Bool, api.Node{Op: api.Const, Value: sample.Bool(0), Args: []api.Node{b}}), yes},
		// other Ops stay
		{op(0, api.Int, one, one), op(0, api.Int, one, one)},
		{op(-1, api.Int, one, one), op(-1, api.Int, one, one)},
		{op(api.OpNan+1, api.Int, one), op(api.OpNan+1, api.Int, one)},
		{op(api.LitInt, api.Int, one), op(api.LitInt, api.Int, one)},
		{op(api.Const, api.Int, one, one), op(api.Const, api.Int, one, one)},
		{op(api.Cur, api.Int, op(api.OpAdd, api.Int, one, one)), op(api.Cur, api.Int, constant(sample.Int(2)))},
		// one operand is enough: of two, not of more or less
		{api.Node{Op: api.OpAnd, Kind: 7, Pos: 3, Attr: 4, Value: sample.Int(5), Args: []api.Node{b, no}}, api.Node{Op: api.Const, Kind: 7, Value: sample.Bool(0)}},
		{api.Node{Op: api.OpOr, Kind: 7, Pos: 3, Attr: 4, Value: sample.Int(5), Args: []api.Node{yes, b}}, api.Node{Op: api.Const, Kind: 7, Value: sample.Bool(1)}},
		{op(api.OpAnd, api.Bool, b, no, b), op(api.OpAnd, api.Bool, b, no, b)},
		{op(api.OpOr, api.Bool, b, yes, b), op(api.OpOr, api.Bool, b, yes, b)},
		{op(api.OpAnd, api.Bool, b, odd), op(api.OpAnd, api.Bool, b, odd)},
		{op(api.OpOr, api.Bool, odd, b), op(api.OpOr, api.Bool, odd, b)},
		{op(api.OpAnd, api.Bool, b, one), op(api.OpAnd, api.Bool, b, one)},
		{op(api.OpAnd, api.Bool, b, constant(sample.Sym(0))), op(api.OpAnd, api.Bool, b, constant(sample.Sym(0)))},
		{op(api.OpOr, api.Bool, b, one), op(api.OpOr, api.Bool, b, one)},
		{op(api.OpAnd, api.Bool, b, api.Node{Op: api.Cur, Value: sample.Bool(0)}), op(api.OpAnd, api.Bool, b, api.Node{Op: api.Cur, Value: sample.Bool(0)})},
		{op(api.OpEq, api.Bool, b, no), op(api.OpEq, api.Bool, b, no)},
		// the other one, whatever it is
		{op(api.OpAnd, 7, yes, op(api.OpMul, 8, b)), op(api.OpMul, 8, b)},
		{op(api.OpOr, 7, api.Node{Pos: 3}, no), api.Node{Pos: 3}},
		{op(api.OpAnd, api.Bool, yes, b, b), op(api.OpAnd, api.Bool, yes, b, b)},
		{op(api.OpAnd, api.Bool, b), op(api.OpAnd, api.Bool, b)},
		{op(api.OpAnd, api.Bool, b, api.Node{Op: api.Cur, Value: sample.Bool(1)}), op(api.OpAnd, api.Bool, b, api.Node{Op: api.Cur, Value: sample.Bool(1)})},
		// OpNot of one
		{op(api.OpNot, 7, op(api.OpNot, 8, b)), b},
		{op(api.OpNot, 7, op(api.OpNot, 8, b, b)), op(api.OpNot, 7, op(api.OpNot, 8, b, b))},
		{op(api.OpNot, 7, op(api.OpNot, 8, b), b), op(api.OpNot, 7, op(api.OpNot, 8, b), b)},
		{op(api.OpNot, 7, op(api.OpNot, 8)), op(api.OpNot, 7, op(api.OpNot, 8))},
		{op(api.OpNot, 7, op(api.OpNeg, 8, b)), op(api.OpNot, 7, op(api.OpNeg, 8, b))},
		{op(api.OpNeg, 7, op(api.OpNeg, 8, b)), op(api.OpNeg, 7, op(api.OpNeg, 8, b))},
	} {
		wantNode(t, "by hand "+dump(i), c.n, c.wanted)
	}
}

// literal is what the chapter says, word by word.
func literal(n api.Node) api.Node {
	if len(n.Args) == 0 {
		n.Args = nil
		return n
	}
	args, values, consts := []api.Node{}, []api.Value{}, 0
	for _, arg := range n.Args {
		arg = literal(arg)
		args, values = append(args, arg), append(values, arg.Value)
		if arg.Op == api.Const {
			consts++
		}
	}
	whose := func(i int, bits uint64) bool {
		return args[i].Op == api.Const && args[i].Value.Kind == api.Bool && args[i].Value.Bits == bits
	}
	joins := len(args) == 2 && (n.Op == api.OpAnd || n.Op == api.OpOr)
	strong := uint64(0)
	if n.Op == api.OpOr {
		strong = 1
	}
	switch {
	case consts == len(args) && n.Op >= api.OpAdd && n.Op <= api.OpNan:
		return api.Node{Op: api.Const, Kind: n.Kind, Value: value.Apply(n.Op, values)}
	case joins && (whose(0, strong) || whose(1, strong)):
		return api.Node{Op: api.Const, Kind: n.Kind, Value: sample.Bool(strong)}
	case joins && whose(0, 1-strong):
		return args[1]
	case joins && whose(1, 1-strong):
		return args[0]
	case n.Op == api.OpNot && len(args) == 1 && args[0].Op == api.OpNot && len(args[0].Args) == 1:
		return args[0].Args[0]
	}
	n.Args = args
	return n
}

// bush is a node of any Op and any Args, most often such as are folded.
func bush(r *rand.Rand, deep int) api.Node {
	if deep == 0 || r.IntN(5) == 0 {
		if r.IntN(3) > 0 {
			return constant([]api.Value{sample.Bool(0), sample.Bool(1), sample.Bool(1), sample.Bool(0), sample.Bool(2), sample.Int(1), {}}[r.IntN(7)])
		}
		return api.Node{Op: []int{api.Cur, api.Of, api.Count, api.Mean, 0}[r.IntN(5)], Kind: r.IntN(5), Pos: r.IntN(5) - 1, Attr: r.IntN(3) - 1}
	}
	n := api.Node{Op: []int{api.OpAnd, api.OpOr, api.OpAnd, api.OpOr, api.OpNot, api.OpNot, api.OpAdd, api.OpLe, api.Const, api.Cur, api.OpNan, 18}[r.IntN(12)], Kind: r.IntN(5)}
	args := 2
	if n.Op == api.OpNot {
		args = 1
	}
	if r.IntN(8) == 0 {
		args = r.IntN(4)
	}
	for range args {
		n.Args = append(n.Args, bush(r, deep-1))
	}
	return n
}

// P12.1: nodes of all sorts, against the chapter's words; and folding again changes nothing.
func TestNodeRandom(t *testing.T) {
	r, smaller := rand.New(rand.NewPCG(12, 1)), 0
	for range 60000 {
		n := bush(r, 1+r.IntN(6))
		got, wanted := fold.Node(n), literal(n)
		if dump(got) != dump(wanted) {
			t.Fatalf("Node of %+v: %+v, wanted %+v", n, got, wanted)
		}
		if again := fold.Node(got); dump(again) != dump(got) {
			t.Fatalf("Node of Node of %+v: %+v, of once %+v", n, again, got)
		}
		if fold.Nodes(got) > 1 && fold.Nodes(got) < fold.Nodes(n) {
			smaller++
		}
	}
	if smaller < 10000 {
		t.Errorf("%d are made smaller", smaller)
	}
}

// looks are some at a script: of each position events of its type, none too.
func looks(r *rand.Rand, b api.Branch, script []api.Event) []eval.Look {
	l := []eval.Look{}
	for range 6 {
		k := eval.Look{Events: script, Cur: -1}
		for _, part := range b.Parts {
			places := []int{}
			for place, e := range script {
				if e.Type == part.Type && r.IntN(3) == 0 {
					places = append(places, place)
				}
			}
			if part.Form != api.Not {
				k.Bound = append(k.Bound, places)
			}
		}
		k.Bound = k.Bound[:r.IntN(len(k.Bound)+1)]
		l = append(l, k)
	}
	return l
}

// P12.2: of conditions of layer 8, Node is in every look what they are; folding again changes nothing.
func TestNodeIsTheSame(t *testing.T) {
	r := rand.New(rand.NewPCG(12, 2))
	m := &sample.Maker{Pick: r.IntN}
	told, smaller := map[api.Value]int{}, 0
	check := func(n api.Node, all []eval.Look) {
		folded := fold.Node(n)
		if !fold.Same(folded, fold.Node(folded)) || folded.Kind != n.Kind {
			t.Fatalf("%+v: %+v, again %+v", n, folded, fold.Node(folded))
		}
		if fold.Same(folded, n) {
			return
		}
		smaller++
		for _, k := range all {
			got, wanted := eval.Node(folded, k), eval.Node(n, k)
			if got != wanted {
				t.Fatalf("%+v folded is %v in %+v, not %v: %+v", n, got, k, wanted, folded)
			}
			told[got]++
		}
	}
	for range 20000 {
		p, ok := sample.Planned(m.Query())
		if !ok {
			continue
		}
		script := m.Script(20)
		for _, b := range p.Branches {
			all := looks(r, b, script)
			for _, part := range b.Parts {
				for _, n := range part.Closes {
					check(n, all)
				}
				for place, e := range script {
					if e.Type != part.Type {
						continue
					}
					for i := range all {
						all[i].Cur = place
					}
					for _, n := range part.Guards {
						check(n, all)
					}
				}
			}
		}
	}
	if smaller < 10000 || told[sample.Bool(0)] < 10000 || told[sample.Bool(1)] < 10000 || told[api.Value{}] < 10000 {
		t.Errorf("%d are made smaller: %v", smaller, told)
	}
}
