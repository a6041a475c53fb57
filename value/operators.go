package value

import (
	"math"

	"auspice/api"
	"auspice/real"
)

// Here all values are Clean already.

func applyToOne(op int, a api.Value) api.Value {
	if resultOfOne(op, a.Kind) == api.Poison {
		return api.Value{}
	}
	switch op {
	case api.OpNot:
		return ofBool(a.Bits == 0)
	case api.OpReal:
		return ofReal(real.OfInt(int64(a.Bits)))
	case api.OpNan:
		return ofBool(!real.Equal(a.Bits, a.Bits))
	}
	if a.Kind == api.Real {
		return ofReal(real.Neg(a.Bits))
	}
	return ofInt(minus(0, int64(a.Bits)))
}

func applyToTwo(op int, a, b api.Value) api.Value {
	switch op {
	case api.OpAnd:
		return both(a, b, ofBool(false))
	case api.OpOr:
		return both(a, b, ofBool(true))
	}
	if a.Kind != b.Kind {
		return api.Value{}
	}
	switch kind := resultOfTwo(op, a.Kind); kind {
	case api.Poison:
		return api.Value{}
	case api.Bool:
		return ofBool(compare(op, a, b))
	case api.Int:
		return ofInt(reckonInts(op, int64(a.Bits), int64(b.Bits)))
	default:
		return ofReal(reckonReals(op, a.Bits, b.Bits))
	}
}

// both is OpAnd and OpOr: one operand that is the strong one is enough, poison beside it or not.
func both(a, b, strong api.Value) api.Value {
	switch {
	case a == strong || b == strong:
		return strong
	case a.Kind != api.Bool || b.Kind != api.Bool:
		return api.Value{}
	}
	return a
}

func compare(op int, a, b api.Value) bool {
	equal, less, more := a.Bits == b.Bits, int64(a.Bits) < int64(b.Bits), int64(a.Bits) > int64(b.Bits)
	if a.Kind == api.Real {
		equal, less, more = real.Equal(a.Bits, b.Bits), real.Less(a.Bits, b.Bits), real.Less(b.Bits, a.Bits)
	}
	switch op {
	case api.OpEq:
		return equal
	case api.OpNe:
		return !equal
	case api.OpLt:
		return less
	case api.OpLe:
		return less || equal
	case api.OpGt:
		return more
	}
	return more || equal
}

func reckonReals(op int, a, b uint64) uint64 {
	switch op {
	case api.OpAdd:
		return real.Add(a, b)
	case api.OpSub:
		return real.Sub(a, b)
	case api.OpMul:
		return real.Mul(a, b)
	}
	return real.Div(a, b)
}

func reckonInts(op int, a, b int64) int64 {
	switch op {
	case api.OpAdd:
		return plus(a, b)
	case api.OpSub:
		return minus(a, b)
	case api.OpMul:
		return times(a, b)
	case api.OpDiv:
		return quotient(a, b)
	}
	return rest(a, b)
}

func plus(a, b int64) int64 {
	sum := a + b
	if b > 0 && sum < a || b < 0 && sum > a {
		panic(outside{})
	}
	return sum
}

func minus(a, b int64) int64 {
	difference := a - b
	if b > 0 && difference > a || b < 0 && difference < a {
		panic(outside{})
	}
	return difference
}

func times(a, b int64) int64 {
	if b == 0 {
		return 0
	}
	product := a * b
	// The quotient of -2^63 by -1 wraps round to -2^63, and so would not show that the product left int64.
	if a == math.MinInt64 && b == -1 || product/b != a {
		panic(outside{})
	}
	return product
}

func quotient(a, b int64) int64 {
	if b == 0 || a == math.MinInt64 && b == -1 {
		panic(outside{})
	}
	return a / b
}

func rest(a, b int64) int64 {
	if b == 0 {
		panic(outside{})
	}
	return a % b
}
