package value_test

import (
	"math"
	"math/big"
	"slices"
	"testing"

	"auspice/api"
	"auspice/real"
	"auspice/sample"
	"auspice/value"
)

// wanted is what the chapter says of operands that are Clean, reckoned in another way than the package does.
func wanted(op int, l []api.Value) api.Value {
	if (op == api.OpAnd || op == api.OpOr) && len(l) == 2 {
		return wantedTruth(op, l[0], l[1])
	}
	kinds := []int{}
	for _, v := range l {
		kinds = append(kinds, v.Kind)
	}
	switch kind := wantedKind(op, kinds); {
	case kind == 0:
		return api.Value{}
	case op == api.OpNot:
		return sample.Bool(1 - l[0].Bits)
	case op == api.OpReal:
		return sample.Real(real.OfInt(int64(l[0].Bits)))
	case op == api.OpNan:
		return said(l[0].Bits == sample.NaN)
	case kind == api.Bool:
		return wantedComparison(op, l[0], l[1])
	case kind == api.Int:
		return wantedInt(op, l)
	}
	return wantedReal(op, l)
}

func said(yes bool) api.Value {
	if yes {
		return sample.Bool(1)
	}
	return sample.Bool(0)
}

func wantedTruth(op int, a, b api.Value) api.Value {
	strong := sample.Bool(0)
	if op == api.OpOr {
		strong = sample.Bool(1)
	}
	switch {
	case a == strong, b == strong:
		return strong
	case a.Kind != api.Bool, b.Kind != api.Bool:
		return api.Value{}
	}
	return sample.Bool(1 - strong.Bits)
}

func wantedComparison(op int, a, b api.Value) api.Value {
	if a.Bits == sample.NaN && a.Kind == api.Real || b.Bits == sample.NaN && b.Kind == api.Real {
		return said(op == api.OpNe)
	}
	order := value.Order(a, b)
	if a.Kind == api.Real && a.Bits&^sample.SignBit == 0 && b.Bits&^sample.SignBit == 0 {
		order = 0
	}
	switch op {
	case api.OpEq:
		return said(order == 0)
	case api.OpNe:
		return said(order != 0)
	case api.OpLt:
		return said(order < 0)
	case api.OpLe:
		return said(order <= 0)
	case api.OpGt:
		return said(order > 0)
	}
	return said(order >= 0)
}

func wantedInt(op int, l []api.Value) api.Value {
	a := big.NewInt(int64(l[0].Bits))
	b := big.NewInt(int64(l[len(l)-1].Bits))
	if (op == api.OpDiv || op == api.OpMod) && b.Sign() == 0 {
		return api.Value{}
	}
	r := new(big.Int)
	switch op {
	case api.OpAdd:
		r.Add(a, b)
	case api.OpSub:
		r.Sub(a, b)
	case api.OpMul:
		r.Mul(a, b)
	case api.OpDiv:
		r.Quo(a, b)
	case api.OpMod:
		r.Rem(a, b)
	case api.OpNeg:
		r.Neg(a)
	}
	if !r.IsInt64() {
		return api.Value{}
	}
	return sample.Int(r.Int64())
}

func wantedReal(op int, l []api.Value) api.Value {
	a, b := l[0].Bits, l[len(l)-1].Bits
	switch op {
	case api.OpAdd:
		return sample.Real(real.Add(a, b))
	case api.OpSub:
		return sample.Real(real.Sub(a, b))
	case api.OpMul:
		return sample.Real(real.Mul(a, b))
	case api.OpDiv:
		return sample.Real(real.Div(a, b))
	}
	return sample.Real(real.Neg(a))
}

// P2.3, and P2.1 (Clean of what is handed in): every operator, of none, one and two of all values.
func TestApply(t *testing.T) {
	l, counts := all()
	for _, op := range operators() {
		checkApply(t, op, nil, nil)
		for i := range l {
			checkApply(t, op, l[i:i+1], counts[i:i+1])
			for j := range l {
				checkApply(t, op, []api.Value{l[i], l[j]}, []api.Value{counts[i], counts[j]})
			}
		}
	}
}

func checkApply(t *testing.T, op int, args, counts []api.Value) {
	t.Helper()
	if got, want := value.Apply(op, args), wanted(op, counts); got != want {
		t.Errorf("Apply(%d, %v): %v, wanted %v", op, args, got, want)
	}
}

// P2.3: numbers of all sizes, near to the ends of int64 too.
func TestApplyInts(t *testing.T) {
	x, y := uint64(3), uint64(5)
	for i := range 20000 {
		x = x*6364136223846793005 + 1442695040888963407
		y = y*2862933555777941757 + 3037000493
		a, b := sample.Int(int64(x)>>(i%64)), sample.Int(int64(y)>>(i/64%64))
		for _, op := range []int{api.OpAdd, api.OpSub, api.OpMul, api.OpDiv, api.OpMod, api.OpLt, api.OpGe} {
			l := []api.Value{a, b}
			checkApply(t, op, l, l)
		}
	}
}

// P2.3: of three and more, no operator has an answer; OpAnd and OpOr neither, even where one would be enough.
func TestApplyOfMany(t *testing.T) {
	for _, op := range operators() {
		for _, v := range []api.Value{sample.Int(1), sample.Bool(0), sample.Bool(1), sample.Real(sample.One), sample.Sym(1), {}} {
			for count := range 6 {
				l := slices.Repeat([]api.Value{v}, count+3)
				if got := value.Apply(op, l); got != (api.Value{}) {
					t.Errorf("Apply(%d, %v): %v", op, l, got)
				}
			}
		}
	}
}

// P2.3: edges told one by one.
func TestApplyEdges(t *testing.T) {
	poison := api.Value{}
	for _, c := range []struct {
		name   string
		op     int
		l      []api.Value
		wanted api.Value
	}{
		{"the greatest + 1", api.OpAdd, []api.Value{sample.Int(math.MaxInt64), sample.Int(1)}, poison},
		{"the least + -1", api.OpAdd, []api.Value{sample.Int(math.MinInt64), sample.Int(-1)}, poison},
		{"the greatest + the least", api.OpAdd, []api.Value{sample.Int(math.MaxInt64), sample.Int(math.MinInt64)}, sample.Int(-1)},
		{"0 - the least", api.OpSub, []api.Value{sample.Int(0), sample.Int(math.MinInt64)}, poison},
		{"-1 - the least", api.OpSub, []api.Value{sample.Int(-1), sample.Int(math.MinInt64)}, sample.Int(math.MaxInt64)},
		{"2^32 * 2^31", api.OpMul, []api.Value{sample.Int(1 << 32), sample.Int(1 << 31)}, poison},
		{"2^32 * -2^31", api.OpMul, []api.Value{sample.Int(1 << 32), sample.Int(-1 << 31)}, sample.Int(math.MinInt64)},
		{"the least * -1", api.OpMul, []api.Value{sample.Int(math.MinInt64), sample.Int(-1)}, poison},
		{"-1 * the least", api.OpMul, []api.Value{sample.Int(-1), sample.Int(math.MinInt64)}, poison},
		{"the least / -1", api.OpDiv, []api.Value{sample.Int(math.MinInt64), sample.Int(-1)}, poison},
		{"the least / 0", api.OpDiv, []api.Value{sample.Int(math.MinInt64), sample.Int(0)}, poison},
		{"-7 / 2", api.OpDiv, []api.Value{sample.Int(-7), sample.Int(2)}, sample.Int(-3)},
		{"the least % -1", api.OpMod, []api.Value{sample.Int(math.MinInt64), sample.Int(-1)}, sample.Int(0)},
		{"7 % 0", api.OpMod, []api.Value{sample.Int(7), sample.Int(0)}, poison},
		{"7 % -2", api.OpMod, []api.Value{sample.Int(7), sample.Int(-2)}, sample.Int(1)},
		{"-7 % 2", api.OpMod, []api.Value{sample.Int(-7), sample.Int(2)}, sample.Int(-1)},
		{"- the least", api.OpNeg, []api.Value{sample.Int(math.MinInt64)}, poison},
		{"- the greatest", api.OpNeg, []api.Value{sample.Int(math.MaxInt64)}, sample.Int(-math.MaxInt64)},
		{"- 0.0", api.OpNeg, []api.Value{sample.Real(0)}, sample.Real(sample.SignBit)},
		{"1.0 / 0.0", api.OpDiv, []api.Value{sample.Real(sample.One), sample.Real(0)}, sample.Real(sample.Infinite)},
		{"inf - inf", api.OpSub, []api.Value{sample.Real(sample.Infinite), sample.Real(sample.Infinite)}, sample.Real(sample.NaN)},
		{"1.0 % 1.0", api.OpMod, []api.Value{sample.Real(sample.One), sample.Real(sample.One)}, poison},
		{"1 + 1.0", api.OpAdd, []api.Value{sample.Int(1), sample.Real(sample.One)}, poison},
		{"-0 = 0", api.OpEq, []api.Value{sample.Real(sample.SignBit), sample.Real(0)}, sample.Bool(1)},
		{"-0 < 0", api.OpLt, []api.Value{sample.Real(sample.SignBit), sample.Real(0)}, sample.Bool(0)},
		{"NaN = NaN", api.OpEq, []api.Value{sample.Real(sample.NaN), sample.Real(sample.NaN)}, sample.Bool(0)},
		{"NaN != NaN", api.OpNe, []api.Value{sample.Real(sample.NaN), sample.Real(sample.NaN)}, sample.Bool(1)},
		{"NaN <= NaN", api.OpLe, []api.Value{sample.Real(sample.NaN), sample.Real(sample.NaN)}, sample.Bool(0)},
		{"NaN >= 1", api.OpGe, []api.Value{sample.Real(sample.NaN), sample.Real(sample.One)}, sample.Bool(0)},
		{"yes < yes", api.OpLt, []api.Value{sample.Bool(1), sample.Bool(1)}, poison},
		{"'a <= 'a", api.OpLe, []api.Value{sample.Sym(0), sample.Sym(0)}, poison},
		{"'a = 'a", api.OpEq, []api.Value{sample.Sym(0), sample.Sym(0)}, sample.Bool(1)},
		{"poison = poison", api.OpEq, []api.Value{{}, {}}, poison},
		{"poison AND no", api.OpAnd, []api.Value{{}, sample.Bool(0)}, sample.Bool(0)},
		{"no AND 'a", api.OpAnd, []api.Value{sample.Bool(0), sample.Sym(0)}, sample.Bool(0)},
		{"yes AND poison", api.OpAnd, []api.Value{sample.Bool(1), {}}, poison},
		{"yes AND a loose no", api.OpAnd, []api.Value{sample.Bool(1), sample.Bool(2)}, poison},
		{"poison OR yes", api.OpOr, []api.Value{{}, sample.Bool(1)}, sample.Bool(1)},
		{"3 OR no", api.OpOr, []api.Value{sample.Int(3), sample.Bool(0)}, poison},
		{"1 OR no", api.OpOr, []api.Value{sample.Int(1), sample.Bool(0)}, poison},
		{"NOT poison", api.OpNot, []api.Value{{}}, poison},
		{"NOT 0", api.OpNot, []api.Value{sample.Int(0)}, poison},
		{"REAL of 2^53 + 1", api.OpReal, []api.Value{sample.Int(1<<53 + 1)}, sample.Real(0x4340000000000000)},
		{"REAL of 1.0", api.OpReal, []api.Value{sample.Real(sample.One)}, poison},
		{"NAN of a foreign NaN", api.OpNan, []api.Value{sample.Real(math.MaxUint64)}, sample.Bool(1)},
		{"NAN of inf", api.OpNan, []api.Value{sample.Real(sample.Infinite)}, sample.Bool(0)},
		{"NAN of poison", api.OpNan, []api.Value{{}}, poison},
	} {
		if got := value.Apply(c.op, c.l); got != c.wanted {
			t.Errorf("%s: %v, wanted %v", c.name, got, c.wanted)
		}
	}
}

// P2.2 and P2.3: an answer is of the kind that Result tells, or poison.
func TestApplyIsOfResultsKind(t *testing.T) {
	l, counts := all()
	for _, op := range operators() {
		for i, a := range l {
			for j, b := range l {
				got := value.Apply(op, []api.Value{a, b})
				kind := value.Result(op, []int{counts[i].Kind, counts[j].Kind})
				logical := op == api.OpAnd || op == api.OpOr
				if got.Kind != kind && got != (api.Value{}) && !logical || got != value.Clean(got) {
					t.Errorf("Apply(%d, %v, %v): %v, but Result says %d", op, a, b, got, kind)
				}
			}
		}
	}
}

// The rule on memory: what is handed in isn't changed, spare room included.
func TestApplyLeavesItsList(t *testing.T) {
	whole := []api.Value{sample.Real(math.MaxUint64), sample.Bool(2), sample.Sym(99), {Kind: 9, Bits: 9}}
	before := slices.Clone(whole)
	for _, op := range operators() {
		for count := range len(whole) {
			value.Apply(op, whole[:count])
		}
	}
	if !slices.Equal(whole, before) {
		t.Errorf("%v, was %v", whole, before)
	}
}
