package wire_test

import (
	"math"
	"math/big"
	"math/rand/v2"
	"slices"
	"testing"

	"auspice/wire"
)

// numbers are such at the edges of how many bytes there are, and others.
func numbers() []uint64 {
	l := []uint64{0, 1, 2, 3, 63, 64, 65, 300, math.MaxUint64 - 1, math.MaxUint64}
	for bit := range 64 {
		n := uint64(1) << bit
		l = append(l, n-1, n, n+1, n+n/2)
	}
	r := rand.New(rand.NewPCG(20, 1))
	for range 3000 {
		l = append(l, r.Uint64()>>r.IntN(64))
	}
	return l
}

// signed are numbers on both sides of 0.
func signed() []int64 {
	l := []int64{}
	for _, n := range numbers() {
		l = append(l, int64(n), -int64(n), int64(n/2), -int64(n/2)-1)
	}
	return l
}

// digits are what the chapter says of the bytes of a number: to the base 128, the lowest first, as few as are enough.
func digits(n *big.Int) []byte {
	l, rest := []byte{}, new(big.Int).Set(n)
	for len(l) == 0 || rest.Sign() > 0 {
		digit := new(big.Int)
		rest.DivMod(rest, big.NewInt(128), digit)
		l = append(l, byte(digit.Int64())+128)
	}
	l[len(l)-1] -= 128
	return l
}

// folded is 2n, or -2n - 1.
func folded(n int64) *big.Int {
	x := new(big.Int).Mul(big.NewInt(n), big.NewInt(2))
	if n < 0 {
		x.Sub(x.Neg(x), big.NewInt(1))
	}
	return x
}

// first is what the chapter says of the number that some bytes begin with: it, and how many bytes it has; nil, where there is none.
func first(b []byte) (*big.Int, int) {
	last := slices.IndexFunc(b, func(c byte) bool { return c < 128 })
	if last < 0 {
		return nil, 0
	}
	n := new(big.Int)
	for at := last; at >= 0; at-- {
		n.Add(n.Mul(n, big.NewInt(128)), big.NewInt(int64(b[at]%128)))
	}
	if !n.IsUint64() || len(digits(n)) < last+1 {
		return nil, 0
	}
	return n, last + 1
}

// unfolded is the number whose folded one that is.
func unfolded(n *big.Int) int64 {
	half := new(big.Int).Div(n, big.NewInt(2))
	if n.Bit(0) == 1 {
		half.Sub(half.Neg(half), big.NewInt(1))
	}
	return half.Int64()
}

// wantRead holds what a reader reads of some bytes, and where it stands then, against the chapter's words: by each of its calls, and where the number is within bounds, and where it isn't.
func wantRead(t *testing.T, b []byte) {
	t.Helper()
	wanted, length := first(b)
	left := len(b) - length
	r := wire.Open(b)
	n, ok := r.Uint()
	if ok != (wanted != nil) || ok && n != wanted.Uint64() || !ok && n != 0 || r.Left() != left {
		t.Fatalf("Uint of % x: %d, %v, %d left; wanted %v, %d left", b, n, ok, r.Left(), wanted, left)
	}
	r = wire.Open(b)
	i, ok := r.Int()
	if ok != (wanted != nil) || ok && i != unfolded(wanted) || !ok && i != 0 || r.Left() != left {
		t.Fatalf("Int of % x: %d, %v, %d left; wanted %v, %d left", b, i, ok, r.Left(), wanted, left)
	}
	number := int64(0)
	if wanted != nil {
		number = unfolded(wanted)
	}
	for _, bounds := range bounds(number) {
		r = wire.Open(b)
		within := wanted != nil && bounds[0] <= number && number <= bounds[1]
		i, ok = r.Upto(bounds[0], bounds[1])
		if ok != within || ok && i != number || !ok && i != 0 || ok && r.Left() != left || !ok && r.Left() != len(b) {
			t.Fatalf("Upto %v of % x: %d, %v, %d left; wanted %v, %v", bounds, b, i, ok, r.Left(), number, within)
		}
		// it stands where it stood, if it read nothing
		if i, ok = r.Int(); !within && (ok != (wanted != nil) || i != number) {
			t.Fatalf("Int of % x behind Upto %v: %d, %v", b, bounds, i, ok)
		}
	}
}

// bounds are such that a number is within, at their edges, and beyond.
func bounds(n int64) [][2]int64 {
	l := [][2]int64{{n, n}, {math.MinInt64, math.MaxInt64}, {math.MinInt64, n}, {n, math.MaxInt64}, {math.MaxInt64, math.MinInt64}, {0, 0}, {-1, 1 << 60}}
	if n > math.MinInt64 {
		l = append(l, [2]int64{n - 1, n - 1}, [2]int64{math.MinInt64, n - 1}, [2]int64{n, n - 1})
	}
	if n < math.MaxInt64 {
		l = append(l, [2]int64{n + 1, n + 1}, [2]int64{n + 1, math.MaxInt64}, [2]int64{n + 1, n})
	}
	return l
}
