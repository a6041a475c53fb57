package event_test

import (
	"math"
	"slices"
	"strings"
	"testing"

	"auspice/api"
	"auspice/event"
	"auspice/sample"
)

func same(a, b api.Event) bool {
	return a.Type == b.Type && a.Time == b.Time && slices.Equal(a.Attrs, b.Attrs)
}

// P4.2
func TestLine(t *testing.T) {
	for _, c := range good {
		if got := event.Line(market(), c.e); got != c.line {
			t.Errorf("%q, wanted %q", got, c.line)
		}
		for _, s := range refused() {
			if got := event.Line(s, c.e); got != "" {
				t.Errorf("%q by a wrong schema", got)
			}
		}
	}
	for _, c := range bad {
		if got := event.Line(market(), c.e); got != "" {
			t.Errorf("%s: %q", c.name, got)
		}
	}
}

// P4.2: what has a line is read from it.
func TestParse(t *testing.T) {
	for _, c := range good {
		if got, ok := event.Parse(market(), c.line); !ok || !same(got, c.e) {
			t.Errorf("%q: %v, %v", c.line, got, ok)
		}
		for _, s := range refused() {
			wantNoEvent(t, s, c.line)
		}
	}
}

func wantNoEvent(t *testing.T, s api.Schema, line string) {
	t.Helper()
	if e, ok := event.Parse(s, line); ok || !same(e, api.Event{}) || e.Attrs != nil {
		t.Errorf("%q: %v, %v", line, e, ok)
	}
}

// P4.2: texts that are no lines, each near to one.
func TestParseRefuses(t *testing.T) {
	for _, line := range []string{
		"", " ", "Buy", "Buy ", "Buy 3", "Buy 3 'ann", "Buy 3 'ann ", "Buy 3 'ann 2 ", "Buy 3 'ann 2 2", " Buy 3 'ann 2", "Buy 3 'ann 2\n",
		"buy 3 'ann 2", "Sell 3 'ann 2", "0 3 'ann 2", "Buy  3 'ann 2", "Buy 3  'ann 2", "Buy 3 'ann  2", "Buy\t3 'ann 2",
		"Buy 03 'ann 2", "Buy +3 'ann 2", "Buy -0 'ann 2", "Buy -1 'ann 2", "Buy 3.0 'ann 2", "Buy 0x3 'ann 2", "Buy 1_0 'ann 2", "Buy three 'ann 2",
		"Buy 1152921504606846977 'ann 2", "Buy 9223372036854775808 'ann 2", "Buy 99999999999999999999999 'ann 2",
		"Buy 3 'ann +2", "Buy 3 'ann 02", "Buy 3 'ann -02", "Buy 3 'ann -0", "Buy 3 'ann 9223372036854775808", "Buy 3 'ann -9223372036854775809", "Buy 3 'ann 2.", "Buy 3 'ann 2e0", "Buy 3 'ann -", "Buy 3 'ann ٢",
		"Buy 3 'bob 2", "Buy 3 ann 2", "Buy 3 ''ann 2", "Buy 3 'ann' 2", "Buy 3 ' 2", "Buy 3 'Ann 2", "Buy 3 0 2", "Buy 3 '0 2", "Buy 3 2 'ann",
		"Bell", "Bell ", "Bell 0 ", "Bell 0 0", "Bell 00",
		"Bu 1 TRUE", "Bu 1 True", "Bu 1 t", "Bu 1 1", "Bu 1 ", "Bu 1", "Bu 1 yes", "Bu 1 truefalse",
		"All 1 1 true 'ann 1.0", "All 1 1 true 'ann 3ff0000000000000", "All 1 1 true 'ann #3FF0000000000000", "All 1 1 true 'ann #3ff000000000000",
		"All 1 1 true 'ann #03ff0000000000000", "All 1 1 true 'ann #7ff8000000000001", "All 1 1 true 'ann #fff8000000000000", "All 1 1 true 'ann NaN", "All 1 1 true 'ann #",
		"All 1 1 true 'ann #3ff000000000000g", "All 1 1 true 'ann #+ff0000000000000", "All 1 1 true 'ann", "All 1 1 true 'ann ",
	} {
		wantNoEvent(t, market(), line)
	}
	wantNoEvent(t, api.Schema{}, "")
	wantNoEvent(t, api.Schema{}, "Buy 3 'ann 2")
	wantNoEvent(t, api.Schema{Types: []api.Type{{Name: ""}}}, " 0")
}

// P4.2: of each text that is one sign from a line, Parse says no, or what has just that line.
func TestParseIsExact(t *testing.T) {
	for _, c := range good {
		for i := range c.line {
			near(t, c.line[:i]+c.line[i+1:])
			for _, b := range " -+'#019aBuy_.\x00\xff" {
				near(t, c.line[:i]+string(b)+c.line[i:])
				near(t, c.line[:i]+string(b)+c.line[i+1:])
			}
		}
	}
}

func near(t *testing.T, line string) {
	t.Helper()
	e, ok := event.Parse(market(), line)
	if !ok {
		wantNoEvent(t, market(), line)
		return
	}
	if got := event.Line(market(), e); got != line || !event.Valid(market(), e) {
		t.Errorf("%q is read as %v, which has %q", line, e, got)
	}
}

// P4.2: there and back, numbers of all sizes.
func TestLineAndBack(t *testing.T) {
	x := uint64(7)
	next := func() uint64 {
		x = x*6364136223846793005 + 1442695040888963407
		return x ^ x>>29
	}
	for range 5000 {
		r := next() >> (next() % 64) << (next() % 64)
		if math.IsNaN(math.Float64frombits(r)) {
			r = sample.NaN
		}
		e := of(2, int64(next()>>(4+next()%60)), sample.Int(int64(next())>>(next()%64)), sample.Bool(next()%2), sample.Sym(next()%2), sample.Real(r))
		line := event.Line(market(), e)
		if got, ok := event.Parse(market(), line); !ok || !same(got, e) || strings.Count(line, " ") != 5 {
			t.Errorf("%v: %q, back %v, %v", e, line, got, ok)
		}
	}
}
