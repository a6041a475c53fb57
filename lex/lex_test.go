package lex_test

import (
	"math"
	"slices"
	"strconv"
	"strings"
	"testing"
	"unsafe"

	"auspice/api"
	"auspice/lex"
)

// words are those of layer 3's chapter.
const words = "PATTERN SEQ WHERE STRATEGY WITHIN PARTITION BY STRICT NEXT ANY AND OR NOT TRUE FALSE TIME REAL ISNAN COUNT FIRST LAST SUM MIN MAX MEAN"

// signs are those of the chapter.
const signs = "!= <= >= ( ) , . + - * / % = < > ! |"

const (
	letters = "ABCDEFGHIJKLMNOPQRSTUVWXYZabcdefghijklmnopqrstuvwxyz"
	digits  = "0123456789"
	blanks  = " \t\n\r"
)

func word(s string, at int) api.Token {
	return api.Token{Kind: api.TokWord, Text: s, At: at}
}

func name(s string, at int) api.Token {
	return api.Token{Kind: api.TokName, Text: s, At: at}
}

func symbol(s string, at int) api.Token {
	return api.Token{Kind: api.TokSym, Text: s, At: at}
}

func sign(s string, at int) api.Token {
	return api.Token{Kind: api.TokSign, Text: s, At: at}
}

func whole(n int64, at int) api.Token {
	return api.Token{Kind: api.TokInt, N: n, At: at}
}

func decimal(n int64, scale, at int) api.Token {
	return api.Token{Kind: api.TokReal, N: n, Scale: scale, At: at}
}

func end(at int) api.Token {
	return api.Token{Kind: api.TokEnd, At: at}
}

// wantScan: a text has just these tokens, the end aside, which stands at the text's length.
func wantScan(t *testing.T, text string, wanted ...api.Token) {
	t.Helper()
	wanted = append(wanted, end(len(text)))
	if got, at, err := lex.Scan(text); !slices.Equal(got, wanted) || at != 0 || err != api.OK {
		t.Errorf("Scan(%q): %v, %d, %d, wanted %v", text, got, at, err, wanted)
	}
}

func wantFault(t *testing.T, text string, wantedAt int, wanted api.Errno) {
	t.Helper()
	if got, at, err := lex.Scan(text); len(got) != 0 || at != wantedAt || err != wanted {
		t.Errorf("Scan(%q): %v, %d, %d, wanted the error %d at %d", text, got, at, err, wanted, wantedAt)
	}
}

// P5.1
func TestScan(t *testing.T) {
	wantScan(t, "")
	wantScan(t, " \t\r\n ")
	wantScan(t, "a<=1.50", name("a", 0), sign("<=", 1), decimal(150, 2, 3))
	wantScan(t, "1.x", whole(1, 0), sign(".", 1), name("x", 2))
	wantScan(t, "\n PATTERN SEQ(Buy a,!Sell+b)\t", word("PATTERN", 2), word("SEQ", 10), sign("(", 13), name("Buy", 14), name("a", 18), sign(",", 19), sign("!", 20), name("Sell", 21), sign("+", 25), name("b", 26), sign(")", 27))
	wantScan(t, "who='ann'OR 'b_1'!=a.TIME", name("who", 0), sign("=", 3), symbol("ann", 4), word("OR", 9), symbol("b_1", 12), sign("!=", 17), name("a", 19), sign(".", 20), word("TIME", 21))
}

// P5.1: each token is as long as can be.
func TestScanLongest(t *testing.T) {
	wantScan(t, "ORa OR", name("ORa", 0), word("OR", 4))
	wantScan(t, "BY_ BY1 By", name("BY_", 0), name("BY1", 4), name("By", 8))
	wantScan(t, "a1_2b", name("a1_2b", 0))
	wantScan(t, "12a", whole(12, 0), name("a", 2))
	wantScan(t, "1.2a", decimal(12, 1, 0), name("a", 3))
	wantScan(t, "12OR", whole(12, 0), word("OR", 2))
	wantScan(t, "1.2.3", decimal(12, 1, 0), sign(".", 3), whole(3, 4))
	wantScan(t, "1..2", whole(1, 0), sign(".", 1), sign(".", 2), whole(2, 3))
	wantScan(t, "1. 2", whole(1, 0), sign(".", 1), whole(2, 3))
	wantScan(t, ".5", sign(".", 0), whole(5, 1))
	wantScan(t, "1 2", whole(1, 0), whole(2, 2))
	wantScan(t, "!==", sign("!=", 0), sign("=", 2))
	wantScan(t, "<==>=", sign("<=", 0), sign("=", 2), sign(">=", 3))
	wantScan(t, "=<", sign("=", 0), sign("<", 1))
	wantScan(t, "=!", sign("=", 0), sign("!", 1))
	wantScan(t, "<>", sign("<", 0), sign(">", 1))
	wantScan(t, "< =", sign("<", 0), sign("=", 2))
	wantScan(t, "!!=", sign("!", 0), sign("!=", 1))
	wantScan(t, "||", sign("|", 0), sign("|", 1))
	wantScan(t, "-1", sign("-", 0), whole(1, 1))
	wantScan(t, "'a''b'c", symbol("a", 0), symbol("b", 3), name("c", 6))
}

// P5.1: all words and all signs, at the end and ahead of something.
func TestScanMarks(t *testing.T) {
	for w := range strings.FieldsSeq(words) {
		wantScan(t, w, word(w, 0))
		wantScan(t, w+"("+w, word(w, 0), sign("(", len(w)), word(w, len(w)+1))
		wantScan(t, w+"S", name(w+"S", 0))
		wantScan(t, strings.ToLower(w), name(strings.ToLower(w), 0))
	}
	for s := range strings.FieldsSeq(signs) {
		wantScan(t, s, sign(s, 0))
		wantScan(t, s+"a"+s+"'b'", sign(s, 0), name("a", len(s)), sign(s, len(s)+1), symbol("b", 2*len(s)+1))
	}
}

// P5.1: the numbers' edges.
func TestScanNumbers(t *testing.T) {
	wantScan(t, "0", whole(0, 0))
	wantScan(t, "10", whole(10, 0))
	wantScan(t, "9223372036854775807", whole(math.MaxInt64, 0))
	wantScan(t, "9223372036854775807.", whole(math.MaxInt64, 0), sign(".", 19))
	wantScan(t, "0.0", decimal(0, 1, 0))
	wantScan(t, "0.05", decimal(5, 2, 0))
	wantScan(t, "1.00", decimal(100, 2, 0))
	wantScan(t, "0.00000000000000", decimal(0, 14, 0))
	wantScan(t, "0.99999999999999", decimal(99999999999999, 14, 0))
	wantScan(t, "9.99999999999999", decimal(999999999999999, 14, 0))
	wantScan(t, "99999999999999.9", decimal(999999999999999, 1, 0))
	for _, s := range []string{
		"00", "01", "007", "00.5", "01.5", "01.x", "01x",
		"9223372036854775808", "9223372036854775808.x", "9223372036854775807.5", "9999999999999999999", "10000000000000000000", strings.Repeat("9", 3000),
		"0.000000000000000", "1.000000000000000", "999999999999999.9", "1000000000000000.0", "0." + strings.Repeat("1", 3000),
	} {
		wantFault(t, s, 0, api.ErrToken)
		wantFault(t, "a + "+s+" ~", 4, api.ErrToken)
	}
}

// P5.1: the names' edges.
func TestScanNames(t *testing.T) {
	long := "a" + strings.Repeat("_", api.MaxName-1)
	wantScan(t, long, name(long, 0))
	wantScan(t, "'"+long+"'", symbol(long, 0))
	wantScan(t, "1"+long, whole(1, 0), name(long, 1))
	for _, s := range []string{long + "a", long + "9", long + "_", "SEQ" + long, strings.Repeat("x", 4000)} {
		wantFault(t, s, 0, api.ErrToken)
		wantFault(t, "1"+s[:25], 1, api.ErrToken)
		wantFault(t, "b  '"+s[:25]+"'", 3, api.ErrToken)
	}
	for _, s := range []string{"'", "''", "'''", "'a", "'a b'", "' a'", "'a '", "'1'", "'_a'", "'SEQ'", "'TIME'", "'a.b'", "'a\n'", "'ä'", "'a" + `"`} {
		wantFault(t, s, 0, api.ErrToken)
		wantFault(t, "b= "+s+" ~", 3, api.ErrToken)
	}
	wantFault(t, "'a'b'", 4, api.ErrToken)
	wantFault(t, "'a''", 3, api.ErrToken)
}

// P5.1, P5.2: each byte alone, behind a blank and behind a name.
func TestScanByByte(t *testing.T) {
	for c := range 256 {
		s := string([]byte{byte(c)})
		if got := lex.Blank(byte(c)); got != strings.Contains(blanks, s) {
			t.Errorf("Blank(%d): %v", c, got)
		}
		switch {
		case strings.Contains(blanks, s):
			wantScan(t, s)
			wantScan(t, s+"a"+s+s+"b"+s, name("a", 1), name("b", 4))
		case strings.Contains(letters, s):
			wantScan(t, " "+s, name(s, 1))
			wantScan(t, "a"+s+"b", name("a"+s+"b", 0))
		case strings.Contains(digits, s):
			n := int64(c - '0')
			wantScan(t, " "+s, whole(n, 1))
			wantScan(t, "a"+s+" 1"+s+" 0."+s, name("a"+s, 0), whole(10+n, 3), decimal(n, 1, 6))
		case slices.Contains(strings.Fields(signs), s):
			wantScan(t, " "+s, sign(s, 1))
			wantScan(t, "a"+s+"b", name("a", 0), sign(s, 1), name("b", 2))
		case s == "_":
			wantScan(t, "a_", name("a_", 0))
			wantFault(t, "_a", 0, api.ErrToken)
			wantFault(t, "1 _", 2, api.ErrToken)
			wantFault(t, "1_", 1, api.ErrToken)
		default:
			wantFault(t, s, 0, api.ErrToken)
			wantFault(t, "a "+s+"b", 2, api.ErrToken)
			wantFault(t, "a"+s, 1, api.ErrToken)
		}
	}
}

// P5.1: the bound of the text, ahead of all that is in it.
func TestScanLong(t *testing.T) {
	for _, c := range []string{" ", "a", "(", "~", "0", "'", "é"} {
		wantFault(t, strings.Repeat(c, api.MaxText+1), 0, api.ErrLong)
	}
	wantScan(t, strings.Repeat(" ", api.MaxText))
	wantScan(t, strings.Repeat(" ", api.MaxText-1)+"a", name("a", api.MaxText-1))
	wantFault(t, strings.Repeat(" ", api.MaxText-1)+"~", api.MaxText-1, api.ErrToken)
	if l, _, err := lex.Scan(strings.Repeat("(", api.MaxText)); len(l) != api.MaxText+1 || err != api.OK {
		t.Errorf("as many tokens as may be: %d, %d", len(l), err)
	}
}

// P5.2
func TestSpell(t *testing.T) {
	for _, c := range []struct {
		t      api.Token
		wanted string
	}{
		{word("PATTERN", 7), "PATTERN"}, {name("a_1", 0), "a_1"}, {symbol("ann", 3), "'ann'"}, {end(9), ""},
		{sign("!=", 0), "!="}, {sign("|", 0), "|"},
		{whole(0, 0), "0"}, {whole(120, 0), "120"}, {whole(math.MaxInt64, 0), "9223372036854775807"},
		{decimal(0, 1, 0), "0.0"}, {decimal(0, 14, 0), "0.00000000000000"}, {decimal(5, 1, 0), "0.5"}, {decimal(5, 2, 0), "0.05"}, {decimal(5, 14, 0), "0.00000000000005"},
		{decimal(150, 2, 0), "1.50"}, {decimal(100, 2, 0), "1.00"}, {decimal(1500, 2, 0), "15.00"}, {decimal(999999999999999, 14, 0), "9.99999999999999"}, {decimal(999999999999999, 1, 0), "99999999999999.9"},
	} {
		if got := lex.Spell(c.t); got != c.wanted {
			t.Errorf("Spell(%v): %q, wanted %q", c.t, got, c.wanted)
		}
	}
}

// P1: tokens that no text has.
func TestSpellOdd(t *testing.T) {
	numbers := []int{math.MinInt, -1000, -15, -1, 0, 1, 14, 15, 16, 1000, math.MaxInt}
	for kind := -2; kind < 9; kind++ {
		for _, n := range numbers {
			for _, scale := range numbers {
				lex.Spell(api.Token{Kind: kind, Text: "\xff'", N: int64(n), Scale: scale, At: n})
			}
		}
	}
}

// The rule on memory: answers share none with one another, nor with the text.
func TestMemory(t *testing.T) {
	text := "a <= 1.5 AND b = 'ann'"
	first, _, _ := lex.Scan(text)
	second, _, _ := lex.Scan(text)
	clear(first[:cap(first)])
	again, _, _ := lex.Scan(text)
	if !slices.Equal(second, again) || len(again) != 8 {
		t.Errorf("%v, and again %v", second, again)
	}
	for _, x := range second {
		if shares(x.Text, text) || shares(lex.Spell(x), x.Text) {
			t.Errorf("%v shares memory", x)
		}
	}
}

// shares tells whether a text that isn't empty begins within the memory of another one.
func shares(a, b string) bool {
	if a == "" || b == "" {
		return false
	}
	at, from := uintptr(unsafe.Pointer(unsafe.StringData(a))), uintptr(unsafe.Pointer(unsafe.StringData(b)))
	return from <= at && at < from+uintptr(len(b))
}

// numberText is so many digits, for tests of numbers by their texts.
func numberText(n uint64, scale int) string {
	s := strconv.FormatUint(n, 10)
	if scale == 0 {
		return s
	}
	s = strings.Repeat("0", max(0, scale+1-len(s))) + s
	return s[:len(s)-scale] + "." + s[len(s)-scale:]
}

// P5.1, P5.2: numbers about the powers of ten and of two, at each scale.
func TestNumbersByText(t *testing.T) {
	for _, n := range edges() {
		for scale := range 18 {
			text := numberText(n, scale)
			count := len(strings.Replace(text, ".", "", 1))
			switch {
			case scale == 0 && n <= math.MaxInt64:
				wantScan(t, text, whole(int64(n), 0))
			case scale > 0 && count <= 15:
				wantScan(t, text, decimal(int64(n), scale, 0))
				if got := lex.Spell(decimal(int64(n), scale, 0)); got != text {
					t.Errorf("Spell of %s: %s", text, got)
				}
			default:
				wantFault(t, text, 0, api.ErrToken)
			}
		}
	}
}

// edges are numbers about the powers of ten and of two.
func edges() []uint64 {
	l := []uint64{0, math.MaxUint64}
	for n := uint64(1); n < math.MaxUint64/10; n *= 10 {
		l = append(l, n-1, n, n+1)
	}
	for i := range 64 {
		n := uint64(1) << i
		l = append(l, n-1, n, n+1)
	}
	return l
}
