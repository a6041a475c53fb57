package eval_test

import (
	"math"
	"math/big"
	"math/rand/v2"
	"slices"
	"testing"

	"auspice/api"
	"auspice/eval"
	"auspice/sample"
	"auspice/value"
)

// P9.1: a Const is Clean of its Value, whatever else it has.
func TestConst(t *testing.T) {
	for _, v := range values() {
		n := api.Node{Op: api.Const, Value: v, Kind: api.Sym, Pos: 3, Attr: 4, Args: []api.Node{{}}}
		if got := eval.Node(n, eval.Look{}); got != value.Clean(v) {
			t.Errorf("%v is %v", v, got)
		}
	}
}

// P9.1: attributes, and where there are none.
func TestAttribute(t *testing.T) {
	k := eval.Look{
		Events: []api.Event{
			{Type: 7, Time: 3, Attrs: []api.Value{sample.Int(5), sample.Sym(2), sample.Bool(2)}},
			{Type: -1, Time: math.MinInt64},
			{Time: api.MaxTime, Attrs: []api.Value{sample.Real(math.MaxUint64)}},
		},
		Bound: [][]int{{0}, {1, 0}, {}, {2}, {-1}, {3}, {math.MaxInt, 0}, {math.MinInt}},
	}
	wanted := map[[2]int]api.Value{
		{0, -1}: sample.Int(3), {0, 0}: sample.Int(5), {0, 1}: sample.Sym(2),
		{1, -1}: sample.Int(math.MinInt64),
		{2, -1}: sample.Int(api.MaxTime), {2, 0}: sample.Real(sample.NaN),
	}
	for _, attr := range []int{math.MinInt, -2, -1, 0, 1, 2, 3, math.MaxInt} {
		for _, place := range []int{math.MinInt, -1, 0, 1, 2, 3, math.MaxInt} {
			k.Cur = place
			if got := eval.Node(cur(attr), k); got != wanted[[2]int{place, attr}] {
				t.Errorf("the attribute %d of the event %d: %v", attr, place, got)
			}
		}
		for pos, place := range map[int]int{0: 0, 1: 1, 2: -1, 3: 2, 4: -1, 5: -1, 6: -1, 7: -1, 8: -1, -1: -1, math.MinInt: -1, math.MaxInt: -1} {
			for _, op := range []int{api.Of, api.First} {
				if got := eval.Node(gather(op, pos, attr), k); got != wanted[[2]int{place, attr}] {
					t.Errorf("%d: the attribute %d of the position %d: %v", op, attr, pos, got)
				}
			}
		}
	}
}

// P9.1: how many events a position has; that an attribute isn't there doesn't matter.
func TestCount(t *testing.T) {
	k := eval.Look{Bound: [][]int{{0}, {}, {1, 2, 3}, nil, {7, 8}}, Events: make([]api.Event, 4)}
	for pos, wanted := range map[int]int64{0: 1, 1: 0, 2: 3, 3: 0, 4: 2, 5: 0, -1: 0, math.MinInt: 0, math.MaxInt: 0} {
		if got := eval.Node(gather(api.Count, pos, 99), k); got != sample.Int(wanted) {
			t.Errorf("the count of %d: %v", pos, got)
		}
	}
}

var aggregates = []int{api.Of, api.Count, api.First, api.Last, api.Sum, api.Min, api.Max, api.Mean}

// P9.1: edges told one by one.
func TestAggregateEdges(t *testing.T) {
	poison := api.Value{}
	const tenth, fifth, half, tiny = 0x3fb999999999999a, 0x3fc999999999999a, 0x3fe0000000000000, 1
	i, r := sample.Int, sample.Real
	for _, c := range []struct {
		name                                string
		l                                   []api.Value
		first, last, sum, least, most, mean api.Value
	}{
		{"one Int", []api.Value{i(5)}, i(5), i(5), i(5), i(5), i(5), poison},
		{"Ints", []api.Value{i(5), i(-7), i(9)}, i(5), i(9), i(7), i(-7), i(9), poison},
		{"too great a sum", []api.Value{i(math.MaxInt64), i(1)}, i(math.MaxInt64), i(1), poison, i(1), i(math.MaxInt64), poison},
		{"too great on the way", []api.Value{i(math.MaxInt64), i(1), i(-1)}, i(math.MaxInt64), i(-1), poison, i(-1), i(math.MaxInt64), poison},
		{"as great as can be", []api.Value{i(math.MaxInt64), i(-1), i(1)}, i(math.MaxInt64), i(1), i(math.MaxInt64), i(-1), i(math.MaxInt64), poison},
		{"the least Int", []api.Value{i(math.MinInt64), i(math.MaxInt64)}, i(math.MinInt64), i(math.MaxInt64), i(-1), i(math.MinInt64), i(math.MaxInt64), poison},
		{"one Bool", []api.Value{sample.Bool(1)}, sample.Bool(1), sample.Bool(1), sample.Bool(1), poison, poison, poison},
		{"Bools", []api.Value{sample.Bool(1), sample.Bool(0)}, sample.Bool(1), sample.Bool(0), poison, poison, poison, poison},
		{"one Sym", []api.Value{sample.Sym(3)}, sample.Sym(3), sample.Sym(3), sample.Sym(3), poison, poison, poison},
		{"Syms", []api.Value{sample.Sym(3), sample.Sym(3)}, sample.Sym(3), sample.Sym(3), poison, poison, poison, poison},
		{"one that is none", []api.Value{sample.Bool(2)}, poison, poison, poison, poison, poison, poison},
		{"poison first", []api.Value{{}, i(1)}, poison, i(1), poison, poison, poison, poison},
		{"poison last", []api.Value{i(1), {}}, i(1), poison, poison, poison, poison, poison},
		{"an Int, a Real", []api.Value{i(1), r(sample.One)}, i(1), r(sample.One), poison, poison, poison, poison},
		{"a Real, an Int", []api.Value{r(sample.One), i(1)}, r(sample.One), i(1), poison, poison, poison, poison},
		{"one Real", []api.Value{r(half)}, r(half), r(half), r(half), r(half), r(half), r(half)},
		{"one -0.0", []api.Value{r(sample.SignBit)}, r(sample.SignBit), r(sample.SignBit), r(sample.SignBit), r(sample.SignBit), r(sample.SignBit), r(sample.SignBit)},
		{"noughts", []api.Value{r(0), r(sample.SignBit)}, r(0), r(sample.SignBit), r(0), r(sample.SignBit), r(0), r(0)},
		{"a NaN first", []api.Value{r(math.MaxUint64), r(half)}, r(sample.NaN), r(half), r(sample.NaN), r(sample.NaN), r(sample.NaN), r(sample.NaN)},
		{"a NaN last", []api.Value{r(half), r(math.MaxUint64)}, r(half), r(sample.NaN), r(sample.NaN), r(sample.NaN), r(sample.NaN), r(sample.NaN)},
		{"infinite", []api.Value{r(sample.Infinite), r(half)}, r(sample.Infinite), r(half), r(sample.Infinite), r(half), r(sample.Infinite), r(sample.Infinite)},
		{"both infinite", []api.Value{r(sample.Infinite), r(sample.Infinite | sample.SignBit)}, r(sample.Infinite), r(sample.Infinite | sample.SignBit), r(sample.NaN), r(sample.Infinite | sample.SignBit), r(sample.Infinite), r(sample.NaN)},
		{"tiny", []api.Value{r(tiny), r(tiny)}, r(tiny), r(tiny), r(2), r(tiny), r(tiny), r(tiny)},
		{"rounded", []api.Value{r(tenth), r(fifth)}, r(tenth), r(fifth), r(0x3fd3333333333334), r(tenth), r(fifth), r(0x3fc3333333333334)},
	} {
		k := row(c.l...)
		for op, wanted := range map[int]api.Value{api.First: c.first, api.Last: c.last, api.Sum: c.sum, api.Min: c.least, api.Max: c.most, api.Mean: c.mean, api.Count: i(int64(len(c.l)))} {
			if got := eval.Node(gather(op, 0, 0), k); got != wanted {
				t.Errorf("%s: %d: %v, wanted %v", c.name, op, got, wanted)
			}
		}
	}
}

// P9.1: sums go from the first one to the last one.
func TestSumOrder(t *testing.T) {
	great, one := sample.Real(math.Float64bits(1<<53)), sample.Real(sample.One)
	for _, c := range []struct {
		l      []api.Value
		wanted float64
	}{
		{[]api.Value{great, one, one}, 1 << 53},
		{[]api.Value{one, one, great}, 1<<53 + 2},
		{[]api.Value{one, great, one}, 1 << 53},
	} {
		if got := eval.Node(gather(api.Sum, 0, 0), row(c.l...)); got != sample.Real(math.Float64bits(c.wanted)) {
			t.Errorf("the sum of %v: %v", c.l, got)
		}
		if got := eval.Node(gather(api.Mean, 0, 0), row(c.l...)); got != sample.Real(math.Float64bits(c.wanted/3)) {
			t.Errorf("the mean of %v: %v", c.l, got)
		}
	}
}

// P9.1: of none, all are poison but Count.
func TestAggregateOfNone(t *testing.T) {
	k := eval.Look{Events: make([]api.Event, 2), Bound: [][]int{{}, nil, {0}}}
	for _, op := range aggregates {
		for _, pos := range []int{math.MinInt, -1, 0, 1, 3, math.MaxInt} {
			wanted := api.Value{}
			if op == api.Count {
				wanted = sample.Int(0)
			}
			if got := eval.Node(gather(op, pos, -1), k); got != wanted {
				t.Errorf("%d of the position %d: %v", op, pos, got)
			}
		}
	}
}

// oracle is what an aggregate makes of values, one at least, reckoned in another way than the package does.
func oracle(op int, l []api.Value) api.Value {
	clean := []api.Value{}
	for _, v := range l {
		clean = append(clean, value.Clean(v))
	}
	switch op {
	case api.Count:
		return sample.Int(int64(len(clean)))
	case api.Last:
		return clean[len(clean)-1]
	case api.Sum, api.Mean:
		return oracleSum(op, clean)
	case api.Min, api.Max:
		return oracleExtreme(op, clean)
	}
	return clean[0]
}

func allOf(kind int, l []api.Value) bool {
	return !slices.ContainsFunc(l, func(v api.Value) bool { return v.Kind != kind })
}

func oracleSum(op int, l []api.Value) api.Value {
	switch {
	case allOf(api.Real, l):
		total := math.Float64frombits(l[0].Bits)
		for _, v := range l[1:] {
			total += math.Float64frombits(v.Bits)
		}
		if op == api.Mean {
			total /= float64(len(l))
		}
		return value.Clean(sample.Real(math.Float64bits(total)))
	case op == api.Mean:
		return api.Value{}
	case allOf(api.Int, l):
		total := new(big.Int)
		for _, v := range l {
			if total.Add(total, big.NewInt(int64(v.Bits))); !total.IsInt64() {
				return api.Value{}
			}
		}
		return sample.Int(total.Int64())
	case len(l) == 1:
		return l[0]
	}
	return api.Value{}
}

func oracleExtreme(op int, l []api.Value) api.Value {
	if !allOf(api.Real, l) && !allOf(api.Int, l) {
		return api.Value{}
	}
	sorted := slices.SortedFunc(slices.Values(l), value.Order)
	most := sorted[len(sorted)-1]
	if op == api.Max || most == sample.Real(sample.NaN) {
		return most
	}
	return sorted[0]
}

// P9.1: aggregates of lists of all sorts.
func TestAggregates(t *testing.T) {
	r := rand.New(rand.NewPCG(9, 1))
	all := values()
	sorts := [][]api.Value{all, {}, {}}
	for _, v := range all {
		switch v.Kind {
		case api.Int:
			sorts[1] = append(sorts[1], v)
		case api.Real:
			sorts[2] = append(sorts[2], v)
		}
	}
	for range 30000 {
		from, l := sorts[r.IntN(len(sorts))], []api.Value{}
		for range 1 + r.IntN(5) {
			l = append(l, from[r.IntN(len(from))])
		}
		k := row(l...)
		for _, op := range aggregates {
			if got, wanted := eval.Node(gather(op, 0, 0), k), oracle(op, l); got != wanted {
				t.Fatalf("%d of %v: %v, wanted %v", op, l, got, wanted)
			}
		}
	}
}

// P9.1: events that aren't there are poison among the others, times are Ints.
func TestAggregatesOfPlaces(t *testing.T) {
	k := eval.Look{Events: []api.Event{{Time: 4}, {Time: -6}, {Time: 9}}, Bound: [][]int{{0, 1, 2}, {0, 3}, {-1, 0}, {2, 1, 1}}}
	for _, c := range []struct {
		op, pos int
		wanted  api.Value
	}{
		{api.Sum, 0, sample.Int(7)}, {api.Min, 0, sample.Int(-6)}, {api.Max, 0, sample.Int(9)}, {api.Last, 0, sample.Int(9)},
		{api.Sum, 1, api.Value{}}, {api.Min, 1, api.Value{}}, {api.Max, 1, api.Value{}}, {api.Last, 1, api.Value{}}, {api.First, 1, sample.Int(4)},
		{api.Sum, 2, api.Value{}}, {api.Min, 2, api.Value{}}, {api.First, 2, api.Value{}}, {api.Last, 2, sample.Int(4)},
		{api.Sum, 3, sample.Int(-3)}, {api.Count, 3, sample.Int(3)}, {api.First, 3, sample.Int(9)}, {api.Last, 3, sample.Int(-6)},
	} {
		if got := eval.Node(gather(c.op, c.pos, -1), k); got != c.wanted {
			t.Errorf("%d of the position %d: %v, wanted %v", c.op, c.pos, got, c.wanted)
		}
	}
}
