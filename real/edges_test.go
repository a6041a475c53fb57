package real_test

import (
	"math"
	"math/big"
)

const (
	nan      = 0x7ff8000000000000
	infinite = 0x7ff0000000000000
	signBit  = 0x8000000000000000
	one      = 0x3ff0000000000000
)

// foreignNaNs are bits of NaNs that aren't canonical.
var foreignNaNs = []uint64{
	0x7ff0000000000001, 0x7ff4000000000000, 0x7ff7ffffffffffff, 0x7ff8000000000001, 0x7fffffffffffffff,
	0xfff0000000000001, 0xfff7ffffffffffff, 0xfff8000000000000, 0xfff8000000000001, 0xffffffffffffffff,
}

// rising are canonical bits in the order that P1.3 tells.
var rising = []uint64{
	signBit | infinite,
	math.Float64bits(-math.MaxFloat64),
	math.Float64bits(-1e300),
	math.Float64bits(-9007199254740993),
	math.Float64bits(-3),
	math.Float64bits(-1.5),
	signBit | one,
	math.Float64bits(-0.1),
	0x8010000000000000, // the least normal one below 0
	0x800fffffffffffff,
	0x8000000000000002,
	0x8000000000000001,
	0x8000000000000000,
	0x0000000000000000,
	0x0000000000000001,
	0x0000000000000002,
	0x0000000000000003,
	0x000fffffffffffff,
	0x0010000000000000,
	0x0010000000000001,
	math.Float64bits(1e-300),
	math.Float64bits(0.1),
	math.Float64bits(0.5),
	0x3fefffffffffffff,
	one,
	0x3ff0000000000001,
	math.Float64bits(1.5),
	math.Float64bits(3),
	math.Float64bits(1e15),
	0x433fffffffffffff,
	0x4340000000000000, // 2^53
	0x4340000000000001,
	math.Float64bits(1e300),
	0x7fe0000000000000,
	0x7fefffffffffffff,
	infinite,
	nan,
}

// samples are all edges, and numbers from all over the bits.
func samples(count int) []uint64 {
	l := append([]uint64(nil), rising...)
	l = append(l, foreignNaNs...)
	x := uint64(88172645463325252)
	for range count {
		x = next(x)
		l = append(l, x, near(x))
	}
	return l
}

// near has an exponent near to 0: two of them are added with a rest more often.
func near(x uint64) uint64 {
	return x&^(0x7ff<<52) | (0x3f0+(x>>52)&0x1f)<<52
}

func next(x uint64) uint64 {
	x ^= x << 13
	x ^= x >> 7
	return x ^ x<<17
}

func isNaN(a uint64) bool { return a&^signBit > infinite }

func isInfinite(a uint64) bool { return a&^signBit == infinite }

func isNought(a uint64) bool { return a&^signBit == 0 }

func exact(a uint64) *big.Rat {
	return new(big.Rat).SetFloat64(math.Float64frombits(a))
}

// rounded is the float nearest to an exact number, with the sign that is handed in, if it is nought.
func rounded(r *big.Rat, sign uint64) uint64 {
	f, _ := r.Float64()
	if f == 0 {
		return sign
	}
	return math.Float64bits(f)
}

func wantedSum(a, b uint64) uint64 {
	switch {
	case isNaN(a) || isNaN(b):
		return nan
	case isInfinite(a) && isInfinite(b) && a != b:
		return nan
	case isInfinite(a):
		return a
	case isInfinite(b):
		return b
	}
	sign := uint64(0)
	if isNought(a) && isNought(b) {
		sign = a & b & signBit
	}
	return rounded(new(big.Rat).Add(exact(a), exact(b)), sign)
}

func wantedProduct(a, b uint64) uint64 {
	sign := (a ^ b) & signBit
	switch {
	case isNaN(a) || isNaN(b):
		return nan
	case isInfinite(a) && isNought(b) || isNought(a) && isInfinite(b):
		return nan
	case isInfinite(a) || isInfinite(b):
		return sign | infinite
	}
	return rounded(new(big.Rat).Mul(exact(a), exact(b)), sign)
}

func wantedQuotient(a, b uint64) uint64 {
	sign := (a ^ b) & signBit
	switch {
	case isNaN(a) || isNaN(b):
		return nan
	case isInfinite(a) && isInfinite(b) || isNought(a) && isNought(b):
		return nan
	case isInfinite(a) || isNought(b):
		return sign | infinite
	case isInfinite(b) || isNought(a):
		return sign
	}
	return rounded(new(big.Rat).Quo(exact(a), exact(b)), sign)
}
