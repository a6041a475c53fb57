// Package real is layer 1: see shared/doc/01-real.md.
package real

import (
	"cmp"
	"math"
	"strconv"
	"strings"
)

const (
	nan     = 0x7ff8000000000000
	signBit = 1 << 63

	mostDigits = 15
	decimalEnd = 1e15 // from here on Decimal takes no number: below, n and 10^scale are floats without a rest

	textMark   = "#"
	textDigits = 16
)

func Canon(a uint64) uint64 {
	if math.IsNaN(math.Float64frombits(a)) {
		return nan
	}
	return a
}

func Add(a, b uint64) uint64 {
	return bitsOf(math.Float64frombits(a) + math.Float64frombits(b))
}

func Sub(a, b uint64) uint64 {
	return bitsOf(math.Float64frombits(a) - math.Float64frombits(b))
}

func Mul(a, b uint64) uint64 {
	// The conversion rounds the product: without it a machine may fuse it with a sum that follows, and round once for two.
	return bitsOf(float64(math.Float64frombits(a) * math.Float64frombits(b)))
}

func Div(a, b uint64) uint64 {
	return bitsOf(math.Float64frombits(a) / math.Float64frombits(b))
}

func Neg(a uint64) uint64 {
	return Canon(a ^ signBit)
}

func Equal(a, b uint64) bool {
	return math.Float64frombits(a) == math.Float64frombits(b)
}

func Less(a, b uint64) bool {
	return math.Float64frombits(a) < math.Float64frombits(b)
}

func Order(a, b uint64) int {
	return cmp.Compare(rank(a), rank(b))
}

func Min(a, b uint64) uint64 {
	return pick(a, b, -1)
}

func Max(a, b uint64) uint64 {
	return pick(a, b, 1)
}

func OfInt(n int64) uint64 {
	return bitsOf(float64(n))
}

func Decimal(n int64, scale int) (uint64, bool) {
	if n < 0 || n >= decimalEnd || scale < 0 || scale > mostDigits {
		return 0, false
	}
	power := 1.0
	for range scale {
		power *= 10
	}
	return bitsOf(float64(n) / power), true
}

func Sum(l []uint64) (uint64, bool) {
	if len(l) == 0 {
		return 0, false
	}
	// Begun with the first one, not with 0: 0 and -0 would be 0.
	sum := Canon(l[0])
	for _, a := range l[1:] {
		sum = Add(sum, a)
	}
	return sum, true
}

func Text(a uint64) string {
	digits := strconv.FormatUint(Canon(a), 16)
	return textMark + strings.Repeat("0", textDigits-len(digits)) + digits
}

func Parse(s string) (uint64, bool) {
	a, err := strconv.ParseUint(strings.TrimPrefix(s, textMark), 16, 64)
	// Text is asked back: so a mark or nought that is missing, great letters, and bits of NaNs that no Text tells, are refused.
	if err != nil || Text(a) != s {
		return 0, false
	}
	return a, true
}

func bitsOf(x float64) uint64 {
	return Canon(math.Float64bits(x))
}

// rank is where a stands in Order: of the numbers below 0 the greater bits stand ahead, so they are turned.
func rank(a uint64) uint64 {
	a = Canon(a)
	if a&signBit != 0 {
		return ^a
	}
	return a | signBit
}

// pick is a where it stands on that side of b, else b. NaN stands last of all, so Min can't leave it to the order.
func pick(a, b uint64, side int) uint64 {
	a, b = Canon(a), Canon(b)
	if a == nan || b == nan {
		return nan
	}
	if Order(a, b) == side {
		return a
	}
	return b
}
