package event_test

import (
	"math"
	"slices"
	"strconv"
	"testing"

	"auspice/api"
	"auspice/event"
	"auspice/sample"
	"auspice/schema"
)

// market has attributes of all kinds, a type without any, and two symbols.
func market() api.Schema {
	return api.Schema{
		Types: []api.Type{
			{Name: "Buy", Fields: []api.Field{{Name: "who", Kind: api.Sym}, {Name: "n", Kind: api.Int}}},
			{Name: "Bell"},
			{Name: "All", Fields: []api.Field{{Name: "i", Kind: api.Int}, {Name: "b", Kind: api.Bool}, {Name: "s", Kind: api.Sym}, {Name: "r", Kind: api.Real}}},
			{Name: "Bu", Fields: []api.Field{{Name: "yes", Kind: api.Bool}}},
		},
		Syms: []string{"ann", "an"},
	}
}

// of is an event.
func of(kind int, time int64, attrs ...api.Value) api.Event {
	return api.Event{Type: kind, Time: time, Attrs: attrs}
}

// good are events of market and their lines.
var good = []struct {
	e    api.Event
	line string
}{
	{of(0, 3, sample.Sym(0), sample.Int(-2)), "Buy 3 'ann -2"},
	{of(0, 0, sample.Sym(1), sample.Int(0)), "Buy 0 'an 0"},
	{of(0, api.MaxTime, sample.Sym(1), sample.Int(math.MinInt64)), "Buy 1152921504606846976 'an -9223372036854775808"},
	{of(0, 10, sample.Sym(0), sample.Int(math.MaxInt64)), "Buy 10 'ann 9223372036854775807"},
	{of(1, 0), "Bell 0"},
	{of(1, 77), "Bell 77"},
	{of(2, 1, sample.Int(1), sample.Bool(1), sample.Sym(0), sample.Real(sample.One)), "All 1 1 true 'ann #3ff0000000000000"},
	{of(2, 1, sample.Int(10), sample.Bool(0), sample.Sym(1), sample.Real(sample.SignBit)), "All 1 10 false 'an #8000000000000000"},
	{of(2, 1, sample.Int(-100), sample.Bool(0), sample.Sym(1), sample.Real(sample.NaN)), "All 1 -100 false 'an #7ff8000000000000"},
	{of(2, 1, sample.Int(0), sample.Bool(0), sample.Sym(0), sample.Real(sample.SignBit|sample.Infinite)), "All 1 0 false 'ann #fff0000000000000"},
	{of(3, 12, sample.Bool(1)), "Bu 12 true"},
}

// bad are events that aren't valid by market.
var bad = []struct {
	name string
	e    api.Event
}{
	{"no type", of(4, 0)},
	{"a type below 0", of(-1, 0)},
	{"far from a type", of(math.MaxInt, 0)},
	{"far below", of(math.MinInt, 0)},
	{"time below 0", of(1, -1)},
	{"the least time", of(1, math.MinInt64)},
	{"time behind the bound", of(1, api.MaxTime+1)},
	{"the greatest time", of(1, math.MaxInt64)},
	{"an attribute too many", of(1, 0, sample.Int(0))},
	{"no attributes", of(0, 0)},
	{"an attribute too few", of(0, 0, sample.Sym(0))},
	{"one more", of(0, 0, sample.Sym(0), sample.Int(0), sample.Int(0))},
	{"the other order", of(0, 0, sample.Int(0), sample.Sym(0))},
	{"no such symbol", of(0, 0, sample.Sym(2), sample.Int(0))},
	{"a symbol below MaxSyms", of(0, 0, sample.Sym(api.MaxSyms-1), sample.Int(0))},
	{"a symbol above MaxSyms", of(0, 0, sample.Sym(api.MaxSyms), sample.Int(0))},
	{"far from a symbol", of(0, 0, sample.Sym(math.MaxUint64), sample.Int(0))},
	{"poison", of(0, 0, sample.Sym(0), api.Value{})},
	{"poison with bits", of(0, 0, sample.Sym(0), api.Value{Bits: 1})},
	{"a loose yes", of(3, 0, sample.Bool(2))},
	{"a number for a truth", of(3, 0, sample.Int(1))},
	{"no kind", of(3, 0, api.Value{Kind: 5})},
	{"another NaN", of(2, 0, sample.Int(0), sample.Bool(0), sample.Sym(0), sample.Real(sample.NaN|1))},
	{"a NaN with a sign", of(2, 0, sample.Int(0), sample.Bool(0), sample.Sym(0), sample.Real(sample.NaN|sample.SignBit))},
	{"a number for a real", of(2, 0, sample.Int(0), sample.Bool(0), sample.Sym(0), sample.Int(0))},
	{"only the last one is wrong", of(2, 0, sample.Int(0), sample.Bool(0), sample.Sym(0), sample.Bool(0))},
	{"only the first one is wrong", of(2, 0, sample.Real(0), sample.Bool(0), sample.Sym(0), sample.Real(0))},
}

// refused are market with a fault each: by such a schema no event is valid.
func refused() []api.Schema {
	long, unnamed, alike, unkind := market(), market(), market(), market()
	for i := range api.MaxSyms {
		long.Syms = append(long.Syms, "s"+strconv.Itoa(i))
	}
	unnamed.Types[3].Name = "TIME"
	alike.Syms[1] = alike.Syms[0]
	unkind.Types[3].Fields[0].Kind = api.Poison
	return []api.Schema{long, unnamed, alike, unkind}
}

// P4.1
func TestValid(t *testing.T) {
	for _, c := range good {
		if !event.Valid(market(), c.e) {
			t.Errorf("%s: isn't valid", c.line)
		}
		if !event.Valid(market(), api.Event{Type: c.e.Type, Time: api.MaxTime, Attrs: c.e.Attrs}) {
			t.Errorf("%s: isn't valid at MaxTime", c.line)
		}
		for i, s := range refused() {
			if event.Valid(s, c.e) {
				t.Errorf("%s: valid by the wrong schema %d", c.line, i)
			}
		}
	}
	for _, c := range bad {
		if event.Valid(market(), c.e) {
			t.Errorf("%s: valid", c.name)
		}
	}
	if event.Valid(api.Schema{}, api.Event{}) {
		t.Error("valid without a type")
	}
	if s := refused()[3]; event.Valid(s, of(3, 0, api.Value{})) {
		t.Error("poison is valid, where an attribute's kind is none")
	}
}

// P4.1: a script without a fault.
func TestScriptOK(t *testing.T) {
	l := []api.Event{of(1, 0), of(0, 0, sample.Sym(0), sample.Int(1)), of(1, 0), of(3, 5, sample.Bool(0)), of(1, api.MaxTime), of(1, api.MaxTime)}
	for i := range l {
		wantScript(t, market(), l[:i+1], 0, api.OK)
	}
	wantScript(t, market(), nil, 0, api.OK)
	wantScript(t, api.Schema{}, nil, 0, api.OK)
	for _, s := range refused() {
		wantScript(t, s, nil, 0, api.OK)
		wantScript(t, s, l, 0, api.ErrEvent)
	}
}

func wantScript(t *testing.T, s api.Schema, l []api.Event, at int, e api.Errno) {
	t.Helper()
	if a, b := event.Script(s, l); a != at || b != e {
		t.Errorf("Script(%v): %d, %d, wanted %d, %d", l, a, b, at, e)
	}
}

// P4.1: each fault at each place, with valid events around it.
func TestScriptFaults(t *testing.T) {
	for at := range 4 {
		l := []api.Event{of(1, 2), of(1, 3), of(1, 3), of(1, 9)}
		if at > 0 {
			l[at].Time = l[at-1].Time - 1
			wantScript(t, market(), l, at, api.ErrTime)
		}
		for _, c := range bad {
			l[at] = c.e
			wantScript(t, market(), l, at, api.ErrEvent)
		}
	}
}

// P4.1: of several faults the first event's; of one event's, that it isn't valid.
func TestScriptOrder(t *testing.T) {
	wrong, early, fine := of(9, 1), of(1, 1), of(1, 2)
	wantScript(t, market(), []api.Event{fine, early, wrong}, 1, api.ErrTime)
	wantScript(t, market(), []api.Event{fine, wrong, early}, 1, api.ErrEvent)
	wantScript(t, market(), []api.Event{fine, fine, of(1, -1)}, 2, api.ErrEvent)
	wantScript(t, market(), []api.Event{of(1, 5), of(1, 7), of(1, 6)}, 2, api.ErrTime)
	wantScript(t, market(), []api.Event{of(1, 5), of(1, 4), of(1, 3)}, 1, api.ErrTime)
}

// P4.3
func TestKinds(t *testing.T) {
	wantKinds(t, event.Kinds(market()), [][]int{{api.Sym, api.Int}, {}, {api.Int, api.Bool, api.Sym, api.Real}, {api.Bool}})
	wantKinds(t, event.Kinds(api.Schema{Syms: []string{"ann"}}), nil)
	wantKinds(t, event.Kinds(refused()[3]), [][]int{{api.Sym, api.Int}, {}, {api.Int, api.Bool, api.Sym, api.Real}, {api.Poison}})
}

func wantKinds(t *testing.T, got, wanted [][]int) {
	t.Helper()
	if !slices.EqualFunc(got, wanted, slices.Equal) {
		t.Errorf("%v, wanted %v", got, wanted)
	}
}

// P4.3: Fits is Valid, of a schema's kinds.
func TestFits(t *testing.T) {
	kinds := event.Kinds(market())
	for _, c := range good {
		if !event.Fits(kinds, 2, c.e) {
			t.Errorf("%s: doesn't fit", c.line)
		}
	}
	for _, c := range bad {
		if event.Fits(kinds, 2, c.e) {
			t.Errorf("%s: fits", c.name)
		}
	}
	if event.Fits(nil, 2, api.Event{}) {
		t.Error("fits where there is no type")
	}
}

// P4.3: so many symbols, from none to MaxSyms.
func TestFitsBySymbols(t *testing.T) {
	kinds := [][]int{{api.Sym}}
	for syms := -3; syms <= api.MaxSyms+3; syms++ {
		for _, bits := range []uint64{0, 1, 31, 32, api.MaxSyms - 1, api.MaxSyms, math.MaxUint64} {
			wanted := 0 <= syms && syms <= api.MaxSyms && bits < uint64(syms)
			if got := event.Fits(kinds, syms, of(0, 0, sample.Sym(bits))); got != wanted {
				t.Errorf("symbol %d of %d: %v", bits, syms, got)
			}
		}
	}
	for _, syms := range []int{math.MinInt, -1, api.MaxSyms + 1, math.MaxInt} {
		if event.Fits([][]int{{}}, syms, of(0, 0)) {
			t.Errorf("fits with %d symbols", syms)
		}
	}
	if !event.Fits([][]int{{}}, 0, of(0, 0)) || !event.Fits([][]int{{}}, api.MaxSyms, of(0, 0)) {
		t.Error("an event without a symbol doesn't fit")
	}
}

// P4.3: kinds that no schema has are refused, also where the event is of another type than the one with the fault.
func TestFitsByKinds(t *testing.T) {
	attrs := slices.Repeat([]int{api.Int}, api.MaxAttrs)
	values := slices.Repeat([]api.Value{sample.Int(1)}, api.MaxAttrs)
	full := slices.Repeat([][]int{attrs}, api.MaxTypes)
	if !event.Fits(full, 0, of(api.MaxTypes-1, 0, values...)) {
		t.Error("the last type of all that may be doesn't fit")
	}
	if event.Fits(append(full, attrs), 0, of(0, 0, values...)) {
		t.Error("a type too many fits")
	}
	if event.Fits([][]int{append(attrs, api.Int)}, 0, of(0, 0, append(values, sample.Int(1))...)) {
		t.Error("an attribute too many fits")
	}
	if event.Fits([][]int{{}, append(attrs, api.Int)}, 0, of(0, 0)) {
		t.Error("an attribute too many of another type fits")
	}
	for _, k := range []int{api.Poison, api.Real + 1, -1, math.MinInt, math.MaxInt} {
		if event.Fits([][]int{{k}}, 1, of(0, 0, api.Value{Kind: k})) {
			t.Errorf("a value of the kind %d fits", k)
		}
		if event.Fits([][]int{{}, {api.Int, k}}, 1, of(0, 0)) {
			t.Errorf("an event fits beside the kind %d", k)
		}
	}
	for k := api.Int; k <= api.Real; k++ {
		if !event.Fits([][]int{{k}}, 1, of(0, 0, api.Value{Kind: k})) {
			t.Errorf("a value of the kind %d doesn't fit", k)
		}
	}
}

// The rule on memory: an answer is new each time, its lists share nothing, and what is handed in isn't changed, spare room included.
func TestMemory(t *testing.T) {
	s := market()
	a, b := event.Kinds(s), event.Kinds(s)
	for i := range a {
		clear(a[i][:cap(a[i])])
	}
	wantKinds(t, a, [][]int{{0, 0}, {}, {0, 0, 0, 0}, {0}})
	clear(a[:cap(a)])
	wantKinds(t, b, [][]int{{api.Sym, api.Int}, {}, {api.Int, api.Bool, api.Sym, api.Real}, {api.Bool}})

	p, _ := event.Parse(s, good[0].line)
	q, _ := event.Parse(s, good[0].line)
	clear(p.Attrs[:cap(p.Attrs)])
	if got := event.Line(s, q); got != good[0].line {
		t.Errorf("two answers share memory: %s", got)
	}

	attrs := []api.Value{sample.Sym(0), sample.Int(1), sample.Int(99)}
	l := []api.Event{of(0, 0, attrs[:2]...), of(1, 0), of(7, 7)}
	pair := []int{api.Sym, api.Int, 99}
	kinds := [][]int{pair[:2], {}, {99}}
	event.Valid(s, l[0])
	event.Script(s, l[:2])
	event.Line(s, l[0])
	event.Fits(kinds[:2], 1, l[0])
	if !slices.Equal(attrs, []api.Value{sample.Sym(0), sample.Int(1), sample.Int(99)}) || l[2].Type != 7 || l[2].Time != 7 {
		t.Errorf("what was handed in is changed: %v, %v", attrs, l)
	}
	wantKinds(t, [][]int{pair, kinds[2]}, [][]int{{api.Sym, api.Int, 99}, {99}})
	if schema.Check(s) != api.OK || s.Syms[0] != "ann" || s.Types[0].Name != "Buy" {
		t.Errorf("the schema is changed: %v", s)
	}
}

// P1: no call panics, whatever the schema, the kinds and the event are.
func TestAnyArguments(t *testing.T) {
	odd := api.Schema{
		Types: []api.Type{{}, {Name: "Buy"}, {Name: "Buy", Fields: []api.Field{{Kind: math.MinInt}, {Name: "x", Kind: api.Sym}, {Kind: math.MaxInt}}}},
		Syms:  []string{"", "ann", "ann", "\xff"},
	}
	for _, s := range append(refused(), odd, market(), api.Schema{}) {
		for _, c := range bad {
			event.Valid(s, c.e)
			event.Line(s, c.e)
			event.Script(s, []api.Event{c.e, {}, c.e})
			for _, syms := range []int{math.MinInt, -1, 0, 1, math.MaxInt} {
				event.Fits(event.Kinds(s), syms, c.e)
				event.Fits([][]int{nil, {math.MinInt, math.MaxInt}}, syms, c.e)
			}
		}
		for _, line := range []string{"", " ", "   ", "Buy 1 ' '", " 1 'ann #", "Buy -1 '\xff \xff", "\x00"} {
			event.Parse(s, line)
		}
	}
}
