package value_test

import (
	"math"
	"slices"
	"testing"

	"auspice/api"
	"auspice/sample"
	"auspice/value"
)

// rising are values of the form, in the order that P2.1 tells.
var rising = []api.Value{
	{},
	sample.Int(math.MinInt64), sample.Int(math.MinInt64 + 1), sample.Int(-1 << 31), sample.Int(-7), sample.Int(-2), sample.Int(-1),
	sample.Int(0), sample.Int(1), sample.Int(2), sample.Int(7), sample.Int(3037000500), sample.Int(1 << 53), sample.Int(math.MaxInt64 - 1), sample.Int(math.MaxInt64),
	sample.Bool(0), sample.Bool(1),
	sample.Sym(0), sample.Sym(1), sample.Sym(api.MaxSyms - 1),
	sample.Real(sample.SignBit | sample.Infinite), sample.Real(sample.SignBit | sample.One), sample.Real(sample.SignBit | 1), sample.Real(sample.SignBit),
	sample.Real(0), sample.Real(1), sample.Real(sample.One), sample.Real(0x3ff8000000000000), sample.Real(0x7fefffffffffffff), sample.Real(sample.Infinite), sample.Real(sample.NaN),
}

// loose are values that count as another one: what each counts as stands beside it.
var loose = []struct{ v, counts api.Value }{
	{api.Value{Kind: api.Poison, Bits: 1}, api.Value{}},
	{api.Value{Kind: api.Poison, Bits: math.MaxUint64}, api.Value{}},
	{sample.Bool(2), api.Value{}},
	{sample.Bool(math.MaxUint64), api.Value{}},
	{sample.Sym(api.MaxSyms), api.Value{}},
	{sample.Sym(math.MaxUint64), api.Value{}},
	{api.Value{Kind: 5, Bits: 1}, api.Value{}},
	{api.Value{Kind: -1, Bits: 1}, api.Value{}},
	{api.Value{Kind: math.MaxInt}, api.Value{}},
	{api.Value{Kind: math.MinInt}, api.Value{}},
	{sample.Real(0x7ff0000000000001), sample.Real(sample.NaN)},
	{sample.Real(0xfff8000000000000), sample.Real(sample.NaN)},
	{sample.Real(math.MaxUint64), sample.Real(sample.NaN)},
}

// all are the values above, and what each counts as.
func all() (l, counts []api.Value) {
	l, counts = slices.Clone(rising), slices.Clone(rising)
	for _, x := range loose {
		l, counts = append(l, x.v), append(counts, x.counts)
	}
	return l, counts
}

// P2.1
func TestClean(t *testing.T) {
	l, counts := all()
	for i, v := range l {
		if got := value.Clean(v); got != counts[i] {
			t.Errorf("Clean(%v): %v, wanted %v", v, got, counts[i])
		}
	}
}

// P2.1
func TestSame(t *testing.T) {
	l, counts := all()
	for i, a := range l {
		for j, b := range l {
			if got, wanted := value.Same(a, b), counts[i] == counts[j]; got != wanted {
				t.Errorf("Same(%v, %v): %v, wanted %v", a, b, got, wanted)
			}
		}
	}
	if value.Same(sample.Real(sample.SignBit), sample.Real(0)) {
		t.Error("-0 is the Same as 0")
	}
	if !value.Same(sample.Real(math.MaxUint64), sample.Real(sample.NaN)) {
		t.Error("NaN isn't the Same as NaN")
	}
	if value.Same(sample.Int(1), sample.Bool(1)) {
		t.Error("1 is the Same as yes")
	}
}

// P2.1
func TestOrder(t *testing.T) {
	l, counts := all()
	for i, a := range l {
		for j, b := range l {
			wanted := 0
			switch p, q := slices.Index(rising, counts[i]), slices.Index(rising, counts[j]); {
			case p < q:
				wanted = -1
			case p > q:
				wanted = 1
			}
			if got := value.Order(a, b); got != wanted {
				t.Errorf("Order(%v, %v): %d, wanted %d", a, b, got, wanted)
			}
		}
	}
}

// table is that of P2.2, line by line.
var table = []struct {
	op     int
	kinds  []int
	answer int
}{
	{api.OpAdd, []int{api.Int, api.Int}, api.Int},
	{api.OpAdd, []int{api.Real, api.Real}, api.Real},
	{api.OpSub, []int{api.Int, api.Int}, api.Int},
	{api.OpSub, []int{api.Real, api.Real}, api.Real},
	{api.OpMul, []int{api.Int, api.Int}, api.Int},
	{api.OpMul, []int{api.Real, api.Real}, api.Real},
	{api.OpDiv, []int{api.Int, api.Int}, api.Int},
	{api.OpDiv, []int{api.Real, api.Real}, api.Real},
	{api.OpMod, []int{api.Int, api.Int}, api.Int},
	{api.OpNeg, []int{api.Int}, api.Int},
	{api.OpNeg, []int{api.Real}, api.Real},
	{api.OpEq, []int{api.Int, api.Int}, api.Bool},
	{api.OpEq, []int{api.Bool, api.Bool}, api.Bool},
	{api.OpEq, []int{api.Sym, api.Sym}, api.Bool},
	{api.OpEq, []int{api.Real, api.Real}, api.Bool},
	{api.OpNe, []int{api.Int, api.Int}, api.Bool},
	{api.OpNe, []int{api.Bool, api.Bool}, api.Bool},
	{api.OpNe, []int{api.Sym, api.Sym}, api.Bool},
	{api.OpNe, []int{api.Real, api.Real}, api.Bool},
	{api.OpLt, []int{api.Int, api.Int}, api.Bool},
	{api.OpLt, []int{api.Real, api.Real}, api.Bool},
	{api.OpLe, []int{api.Int, api.Int}, api.Bool},
	{api.OpLe, []int{api.Real, api.Real}, api.Bool},
	{api.OpGt, []int{api.Int, api.Int}, api.Bool},
	{api.OpGt, []int{api.Real, api.Real}, api.Bool},
	{api.OpGe, []int{api.Int, api.Int}, api.Bool},
	{api.OpGe, []int{api.Real, api.Real}, api.Bool},
	{api.OpAnd, []int{api.Bool, api.Bool}, api.Bool},
	{api.OpOr, []int{api.Bool, api.Bool}, api.Bool},
	{api.OpNot, []int{api.Bool}, api.Bool},
	{api.OpReal, []int{api.Int}, api.Real},
	{api.OpNan, []int{api.Real}, api.Bool},
}

func wantedKind(op int, kinds []int) int {
	for _, line := range table {
		if line.op == op && slices.Equal(line.kinds, kinds) {
			return line.answer
		}
	}
	return 0
}

// operators are all there are, and numbers that are none (leaves and instructions too).
func operators() []int {
	l := []int{math.MinInt, -17, -1, math.MaxInt}
	for op := range 60 {
		l = append(l, op)
	}
	return l
}

// P2.2: every operator, of up to three operands, of all kinds and of numbers that are none.
func TestResult(t *testing.T) {
	kinds := []int{math.MinInt, -1, 0, 1, 2, 3, 4, 5, math.MaxInt}
	for _, op := range operators() {
		checkKind(t, op, nil)
		checkKind(t, op, []int{})
		for _, a := range kinds {
			checkKind(t, op, []int{a})
			for _, b := range kinds {
				checkKind(t, op, []int{a, b})
				for _, c := range kinds {
					checkKind(t, op, []int{a, b, c})
				}
			}
		}
	}
}

func checkKind(t *testing.T, op int, kinds []int) {
	t.Helper()
	before := slices.Clone(kinds)
	if got, wanted := value.Result(op, kinds), wantedKind(op, kinds); got != wanted {
		t.Errorf("Result(%d, %v): %d, wanted %d", op, kinds, got, wanted)
	}
	if !slices.Equal(kinds, before) {
		t.Errorf("Result(%d, %v) changed the kinds: %v", op, before, kinds)
	}
}
