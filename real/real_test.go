package real_test

import (
	"math"
	"math/big"
	"slices"
	"strings"
	"testing"

	"auspice/real"
)

// P1.1
func TestCanon(t *testing.T) {
	for _, a := range append([]uint64{nan}, foreignNaNs...) {
		if got := real.Canon(a); got != nan {
			t.Errorf("Canon(%#x): %#x", a, got)
		}
	}
	for _, a := range rising {
		if got := real.Canon(a); got != a {
			t.Errorf("Canon(%#x): %#x", a, got)
		}
	}
}

// P1.1: all calls look at Canon of what they are handed, and answer canonical bits.
func TestAllLookAtCanon(t *testing.T) {
	of2 := map[string]func(a, b uint64) uint64{
		"Add": real.Add, "Sub": real.Sub, "Mul": real.Mul, "Div": real.Div, "Min": real.Min, "Max": real.Max,
		"Sum":     func(a, b uint64) uint64 { s, _ := real.Sum([]uint64{a, b}); return s },
		"Sum of1": func(a, _ uint64) uint64 { s, _ := real.Sum([]uint64{a}); return s },
		"Neg":     func(a, _ uint64) uint64 { return real.Neg(a) },
	}
	all := append(slices.Clone(rising), foreignNaNs...)
	for _, a := range all {
		for _, b := range all {
			ca, cb := canonical(a), canonical(b)
			for name, call := range of2 {
				got, wanted := call(a, b), call(ca, cb)
				if got != wanted || got != canonical(got) {
					t.Errorf("%s(%#x, %#x): %#x, of the canonical ones %#x", name, a, b, got, wanted)
				}
			}
			if real.Equal(a, b) != real.Equal(ca, cb) || real.Less(a, b) != real.Less(ca, cb) || real.Order(a, b) != real.Order(ca, cb) {
				t.Errorf("%#x and %#x are held against each other unlike the canonical ones", a, b)
			}
		}
		if real.Text(a) != real.Text(canonical(a)) {
			t.Errorf("Text(%#x): %s", a, real.Text(a))
		}
	}
}

func canonical(a uint64) uint64 {
	if isNaN(a) {
		return nan
	}
	return a
}

// P1.2, with an exact reckoning beside it.
func TestArithmetic(t *testing.T) {
	all := samples(60)
	for _, a := range all {
		for _, b := range all {
			check(t, "Add", a, b, real.Add(a, b), wantedSum(a, b))
			check(t, "Sub", a, b, real.Sub(a, b), wantedSum(a, b^signBit))
			check(t, "Mul", a, b, real.Mul(a, b), wantedProduct(a, b))
			check(t, "Div", a, b, real.Div(a, b), wantedQuotient(a, b))
		}
	}
}

func check(t *testing.T, name string, a, b, got, wanted uint64) {
	t.Helper()
	if got != wanted {
		t.Errorf("%s(%#x, %#x): %#x, wanted %#x", name, a, b, got, wanted)
	}
}

// P1.2: edges told one by one.
func TestArithmeticEdges(t *testing.T) {
	const (
		minusZero     = signBit
		minusInfinite = signBit | infinite
		most          = 0x7fefffffffffffff
		least         = 1
		two53         = 0x4340000000000000
		three         = 0x4008000000000000
	)
	for _, c := range []struct {
		name         string
		call         func(a, b uint64) uint64
		a, b, wanted uint64
	}{
		{"1 + -0", real.Add, one, minusZero, one},
		{"-0 + -0", real.Add, minusZero, minusZero, minusZero},
		{"-0 + 0", real.Add, minusZero, 0, 0},
		{"1 + -1", real.Add, one, one | signBit, 0},
		{"inf + -inf", real.Add, infinite, minusInfinite, nan},
		{"the greatest twice", real.Add, most, most, infinite},
		{"2^53 + 1, as near: the even one", real.Add, two53, one, two53},
		{"2^53 + 2 + 1, as near: the even one", real.Add, two53 + 1, one, two53 + 2},
		{"2^53 + 3", real.Add, two53, three, two53 + 2},
		{"-0 - 0", real.Sub, minusZero, 0, minusZero},
		{"0 - 0", real.Sub, 0, 0, 0},
		{"inf - inf", real.Sub, infinite, infinite, nan},
		{"0 * inf", real.Mul, 0, infinite, nan},
		{"-1 * 0", real.Mul, one | signBit, 0, minusZero},
		{"the least by a half, as near: 0", real.Mul, least, 0x3fe0000000000000, 0},
		{"1 / 0", real.Div, one, 0, infinite},
		{"1 / -0", real.Div, one, minusZero, minusInfinite},
		{"0 / 0", real.Div, 0, 0, nan},
		{"inf / inf", real.Div, infinite, infinite, nan},
		{"1 / -inf", real.Div, one, minusInfinite, minusZero},
		{"1 / 3", real.Div, one, three, 0x3fd5555555555555},
		{"NaN / 0", real.Div, nan, 0, nan},
	} {
		if got := c.call(c.a, c.b); got != c.wanted {
			t.Errorf("%s: %#x, wanted %#x", c.name, got, c.wanted)
		}
	}
}

// P1.2
func TestNeg(t *testing.T) {
	for _, a := range samples(60) {
		wanted := a ^ signBit
		if isNaN(a) {
			wanted = nan
		}
		if got := real.Neg(a); got != wanted {
			t.Errorf("Neg(%#x): %#x, wanted %#x", a, got, wanted)
		}
	}
}

// P1.3
func TestOrder(t *testing.T) {
	for i, a := range rising {
		for j, b := range rising {
			if got, wanted := real.Order(a, b), side(i, j); got != wanted {
				t.Errorf("Order(%#x, %#x): %d, wanted %d", a, b, got, wanted)
			}
		}
	}
}

func side(i, j int) int {
	switch {
	case i < j:
		return -1
	case i > j:
		return 1
	}
	return 0
}

// P1.3: but for NaN and the noughts, Equal and Less are as the places in the order.
func TestEqualLess(t *testing.T) {
	for i, a := range rising {
		for j, b := range rising {
			equal, less := i == j, i < j
			if isNought(a) && isNought(b) {
				equal, less = true, false
			}
			if isNaN(a) || isNaN(b) {
				equal, less = false, false
			}
			if real.Equal(a, b) != equal || real.Less(a, b) != less {
				t.Errorf("%#x, %#x: Equal %v, Less %v", a, b, real.Equal(a, b), real.Less(a, b))
			}
		}
	}
	for _, a := range foreignNaNs {
		if real.Equal(a, a) || real.Less(a, one) || real.Less(one, a) {
			t.Errorf("%#x is equal or less", a)
		}
	}
}

// P1.4
func TestMinMax(t *testing.T) {
	for i, a := range rising {
		for j, b := range rising {
			least, most := rising[min(i, j)], rising[max(i, j)]
			if isNaN(a) || isNaN(b) {
				least, most = nan, nan
			}
			check(t, "Min", a, b, real.Min(a, b), least)
			check(t, "Max", a, b, real.Max(a, b), most)
		}
	}
	for _, a := range foreignNaNs {
		check(t, "Min", a, one, real.Min(a, one), nan)
		check(t, "Min", one, a, real.Min(one, a), nan)
		check(t, "Max", a, one, real.Max(a, one), nan)
		check(t, "Max", one, a, real.Max(one, a), nan)
	}
}

// P1.5
func TestOfInt(t *testing.T) {
	for _, c := range []struct {
		n      int64
		wanted uint64
	}{
		{0, 0}, {1, one}, {-1, one | signBit}, {3, 0x4008000000000000},
		{1 << 53, 0x4340000000000000},
		{1<<53 + 1, 0x4340000000000000}, // as near to two: the even one
		{1<<53 + 2, 0x4340000000000001},
		{1<<53 + 3, 0x4340000000000002},
		{-1<<53 - 1, 0xc340000000000000},
		{math.MaxInt64, 0x43e0000000000000},
		{math.MinInt64, 0xc3e0000000000000},
	} {
		if got := real.OfInt(c.n); got != c.wanted {
			t.Errorf("OfInt(%d): %#x, wanted %#x", c.n, got, c.wanted)
		}
	}
	x := uint64(7)
	for i := range 2000 {
		x = next(x)
		n := int64(x) >> (i % 64)
		if got, wanted := real.OfInt(n), rounded(new(big.Rat).SetInt64(n), 0); got != wanted {
			t.Errorf("OfInt(%d): %#x, wanted %#x", n, got, wanted)
		}
	}
}

const tenTo15 = 1_000_000_000_000_000

// P1.5
func TestDecimal(t *testing.T) {
	x := uint64(11)
	for i := range 2000 {
		x = next(x)
		checkDecimal(t, int64(x%tenTo15)>>(i%50), i%16)
	}
	for scale := range 16 {
		for _, n := range []int64{0, 1, 5, 15, 123456789, tenTo15 - 1} {
			checkDecimal(t, n, scale)
		}
	}
	if got, ok := real.Decimal(15, 1); got != 0x3ff8000000000000 || !ok {
		t.Errorf("1.5: %#x, %v", got, ok)
	}
}

func checkDecimal(t *testing.T, n int64, scale int) {
	t.Helper()
	power := new(big.Int).Exp(big.NewInt(10), big.NewInt(int64(scale)), nil)
	wanted := rounded(new(big.Rat).SetFrac(big.NewInt(n), power), 0)
	if got, ok := real.Decimal(n, scale); got != wanted || !ok {
		t.Errorf("Decimal(%d, %d): %#x, %v, wanted %#x", n, scale, got, ok, wanted)
	}
}

// P1.5
func TestDecimalOutside(t *testing.T) {
	for _, c := range []struct {
		n     int64
		scale int
	}{
		{-1, 0}, {-1, 3}, {tenTo15, 0}, {tenTo15, 15}, {0, -1}, {0, 16}, {1, -1}, {1, 16},
		{math.MaxInt64, 1}, {math.MinInt64, 1}, {1, math.MaxInt}, {1, math.MinInt}, {-1, 16},
	} {
		if got, ok := real.Decimal(c.n, c.scale); got != 0 || ok {
			t.Errorf("Decimal(%d, %d): %#x, %v", c.n, c.scale, got, ok)
		}
	}
}

// P1.6
func TestSum(t *testing.T) {
	great := math.Float64bits(1e308)
	for _, c := range []struct {
		name   string
		l      []uint64
		wanted uint64
		ok     bool
	}{
		{"nil", nil, 0, false},
		{"none", []uint64{}, 0, false},
		{"of one", []uint64{one}, one, true},
		{"of -0", []uint64{signBit}, signBit, true},
		{"of -0 twice", []uint64{signBit, signBit}, signBit, true},
		{"of -0 and 0", []uint64{signBit, 0}, 0, true},
		{"of a foreign NaN", []uint64{0xfff0000000000001}, nan, true},
		{"1, 1, 1", []uint64{one, one, one}, 0x4008000000000000, true},
		{"the ones are lost behind", []uint64{0x4340000000000000, one, one}, 0x4340000000000000, true},
		{"the ones count ahead", []uint64{one, one, 0x4340000000000000}, 0x4340000000000001, true},
		{"beyond the end and back", []uint64{great, great, great | signBit}, infinite, true},
		{"back ahead of the end", []uint64{great, great | signBit, great}, great, true},
	} {
		if got, ok := real.Sum(c.l); got != c.wanted || ok != c.ok {
			t.Errorf("%s: %#x, %v, wanted %#x, %v", c.name, got, ok, c.wanted, c.ok)
		}
	}
}

// The rule on memory: what is handed in isn't changed, spare room included.
func TestSumLeavesItsList(t *testing.T) {
	whole := []uint64{0xfff0000000000001, one, signBit, 5, 0xffffffffffffffff}
	before := slices.Clone(whole)
	real.Sum(whole[:3])
	if !slices.Equal(whole, before) {
		t.Errorf("%#x, was %#x", whole, before)
	}
}

// P1.7
func TestText(t *testing.T) {
	for _, c := range []struct {
		a      uint64
		wanted string
	}{
		{0, "#0000000000000000"},
		{1, "#0000000000000001"},
		{signBit, "#8000000000000000"},
		{one, "#3ff0000000000000"},
		{0x0123456789abcdef, "#0123456789abcdef"},
		{signBit | infinite, "#fff0000000000000"},
		{nan, "#7ff8000000000000"},
		{0xffffffffffffffff, "#7ff8000000000000"},
	} {
		if got := real.Text(c.a); got != c.wanted {
			t.Errorf("Text(%#x): %s, wanted %s", c.a, got, c.wanted)
		}
	}
}

// P1.7
func TestParseIsTextBack(t *testing.T) {
	for _, a := range samples(500) {
		if got, ok := real.Parse(real.Text(a)); got != canonical(a) || !ok {
			t.Errorf("Parse(Text(%#x)): %#x, %v", a, got, ok)
		}
	}
}

// P1.7
func TestParseRefuses(t *testing.T) {
	for _, s := range []string{
		"", "#", "0", "0000000000000000", "00000000000000000", " #0000000000000000", "#0000000000000000 ",
		"#0000000000000000\n", "#000000000000000", "#00000000000000000", "##000000000000000",
		"#3FF0000000000000", "#3ff000000000000A", "#3ff000000000000g", "#3ff000000000000/", "#3ff000000000000:",
		"#+000000000000001", "#-000000000000001", "#0x00000000000001", "#0000_0000_0000_0", "#0000000000000.0",
		"#\x00000000000000000", "#\xff00000000000000", "\xff0000000000000000", "#000000000000000\u0661",
		"#7ff8000000000001", "#7ff0000000000001", "#fff8000000000000", "#ffffffffffffffff",
		"#" + strings.Repeat("0", 1000),
	} {
		if got, ok := real.Parse(s); got != 0 || ok {
			t.Errorf("Parse(%q): %#x, %v", s, got, ok)
		}
	}
}
