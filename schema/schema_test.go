package schema_test

import (
	"math"
	"slices"
	"strconv"
	"strings"
	"testing"

	"auspice/api"
	"auspice/schema"
)

// words are those that the chapter lists.
const words = "PATTERN SEQ WHERE STRATEGY WITHIN PARTITION BY STRICT NEXT ANY AND OR NOT TRUE FALSE TIME REAL ISNAN COUNT FIRST LAST SUM MIN MAX MEAN"

const (
	letters = "ABCDEFGHIJKLMNOPQRSTUVWXYZabcdefghijklmnopqrstuvwxyz"
	further = letters + "0123456789_"
)

// P3.1: a word, and what is nearly one.
func TestWord(t *testing.T) {
	l := strings.Fields(words)
	for _, w := range l {
		if !schema.Word(w) {
			t.Errorf("Word(%q): false", w)
		}
		for _, s := range []string{strings.ToLower(w), w[:1] + strings.ToLower(w[1:]), w + "S", "X" + w, w[1:], w[:len(w)-1], w + " ", " " + w, w + "\x00", w + w} {
			if schema.Word(s) != slices.Contains(l, s) {
				t.Errorf("Word(%q): %v", s, schema.Word(s))
			}
		}
	}
	for _, s := range []string{"", " ", "SELECT", "ONE", "MANY", "COUNTS", "INT", "BOOL", "SYM", "NAN", "AVG", "IN", words, strings.Repeat("A", 1000)} {
		if schema.Word(s) {
			t.Errorf("Word(%q): true", s)
		}
	}
}

// P3.1: every byte, alone, ahead of a letter and behind one.
func TestNameByByte(t *testing.T) {
	for c := range 256 {
		b := string([]byte{byte(c)})
		first, behind := strings.Contains(letters, b), strings.Contains(further, b)
		for _, x := range []struct {
			s      string
			wanted bool
		}{
			{b, first}, {b + "x", first}, {"x" + b, behind}, {"x" + b + "x", behind}, {strings.Repeat("x", api.MaxName-1) + b, behind},
		} {
			if got := schema.Name(x.s); got != x.wanted {
				t.Errorf("Name(%q): %v", x.s, got)
			}
		}
	}
}

// P3.1: the lengths, the words, and letters of other scripts.
func TestName(t *testing.T) {
	for _, s := range []string{"a", "Z", "a_1", "a__", "A9", strings.Repeat("x", api.MaxName), "a" + strings.Repeat("9", api.MaxName-1), "seq", "Seq", "SEQ_", "SEQS", "time", "TIMES", "BYE"} {
		if !schema.Name(s) {
			t.Errorf("Name(%q): false", s)
		}
	}
	for _, s := range []string{"", "_", "_a", "1", "1a", " a", "a ", "a b", "a.b", "a-b", "'a", "a\n", "a\x00", "ä", "aä", "aж", "Ａ", "a٣", "a\u0301", "a\xff", "\xff", "a\ufffd",
		strings.Repeat("x", api.MaxName+1), strings.Repeat("x", 1<<20), strings.Repeat("ä", api.MaxName/2)} {
		if schema.Name(s) {
			t.Errorf("Name(%q): true", s)
		}
	}
	for w := range strings.FieldsSeq(words) {
		if schema.Name(w) {
			t.Errorf("Name(%q): true", w)
		}
	}
}

// numbered are so many names, with a text ahead.
func numbered(ahead string, count int) []string {
	l := []string{}
	for i := range count {
		l = append(l, ahead+strconv.Itoa(i))
	}
	return l
}

// wide is a schema with so many types, attributes of each and symbols.
func wide(types, attrs, syms int) api.Schema {
	s := api.Schema{Syms: numbered("s", syms)}
	for i, name := range numbered("t", types) {
		x := api.Type{Name: name}
		for j, f := range numbered("f", attrs) {
			x.Fields = append(x.Fields, api.Field{Name: f, Kind: (i+j)%4 + 1})
		}
		s.Types = append(s.Types, x)
	}
	return s
}

// P3.2: what is allowed, up to the limits.
func TestCheckOK(t *testing.T) {
	same := func(name string) api.Type {
		return api.Type{Name: name, Fields: []api.Field{{Name: "x", Kind: api.Int}, {Name: "Buy", Kind: api.Real}}}
	}
	for name, s := range map[string]api.Schema{
		"nothing":                               {},
		"a type":                                wide(1, 0, 0),
		"all there may be":                      wide(api.MaxTypes, api.MaxAttrs, api.MaxSyms),
		"attributes alike of two types":         {Types: []api.Type{same("A"), same("B")}},
		"a type's, its attribute's, a symbol's": {Types: []api.Type{same("Buy"), same("x")}, Syms: []string{"Buy", "x"}},
		"upper and lower":                       {Types: []api.Type{same("a"), same("A")}, Syms: []string{"x", "X"}},
	} {
		if got := schema.Check(s); got != api.OK {
			t.Errorf("%s: %d", name, got)
		}
	}
}

// P3.2: each fault alone, at the first, at a middle and at the last part.
func TestCheckFaults(t *testing.T) {
	limit := func() api.Schema { return wide(api.MaxTypes, api.MaxAttrs, api.MaxSyms) }
	for i := range api.MaxTypes {
		s := limit()
		s.Types[i].Fields = append(s.Types[i].Fields, api.Field{Name: "more", Kind: api.Int})
		wantCheck(t, "an attribute too many", s, api.ErrLong)
		for _, bad := range []string{"", "_", "TIME", s.Types[(i+1)%api.MaxTypes].Name} {
			s = limit()
			s.Types[i].Name = bad
			wantCheck(t, "a type "+bad, s, api.ErrName)
		}
		for j := range api.MaxAttrs {
			for _, bad := range []string{"", "1", "TIME", "x y", s.Types[i].Fields[(j+1)%api.MaxAttrs].Name} {
				s = limit()
				s.Types[i].Fields[j].Name = bad
				wantCheck(t, "an attribute "+bad, s, api.ErrName)
			}
			for _, bad := range []int{api.Poison, api.Real + 1, -1, math.MinInt, math.MaxInt} {
				s = limit()
				s.Types[i].Fields[j].Kind = bad
				wantCheck(t, "a kind", s, api.ErrKind)
			}
		}
	}
	for i := range api.MaxSyms {
		for _, bad := range []string{"", "_", "NOT", limit().Syms[(i+1)%api.MaxSyms]} {
			s := limit()
			s.Syms[i] = bad
			wantCheck(t, "a symbol "+bad, s, api.ErrName)
		}
	}
	wantCheck(t, "a type too many", wide(api.MaxTypes+1, 1, 1), api.ErrLong)
	wantCheck(t, "a symbol too many", wide(1, 1, api.MaxSyms+1), api.ErrLong)
	wantCheck(t, "far too many of all", wide(20*api.MaxTypes, 20*api.MaxAttrs, 20*api.MaxSyms), api.ErrLong)
}

func wantCheck(t *testing.T, what string, s api.Schema, wanted api.Errno) {
	t.Helper()
	if got := schema.Check(s); got != wanted {
		t.Errorf("%s: %d, wanted %d", what, got, wanted)
	}
}

// P3.2: of several faults the one that the chapter names first, wherever they stand.
func TestCheckOrder(t *testing.T) {
	unkind := api.Type{Name: "U", Fields: []api.Field{{Name: "x", Kind: 9}}}
	unnamed := api.Type{Name: "N", Fields: []api.Field{{Name: "", Kind: api.Int}}}
	long := api.Type{Name: "L", Fields: wide(1, api.MaxAttrs+1, 0).Types[0].Fields}
	for _, c := range []struct {
		name   string
		s      api.Schema
		wanted api.Errno
	}{
		{"kind, name, length", api.Schema{Types: []api.Type{unkind, unnamed, long}}, api.ErrLong},
		{"length, name, kind", api.Schema{Types: []api.Type{long, unnamed, unkind}}, api.ErrLong},
		{"kind, name", api.Schema{Types: []api.Type{unkind, unnamed}}, api.ErrName},
		{"kind, a symbol's name", api.Schema{Types: []api.Type{unkind}, Syms: []string{"a", "a"}}, api.ErrName},
		{"kind, types alike", api.Schema{Types: []api.Type{unkind, unkind}}, api.ErrName},
		{"symbols alike, too many", api.Schema{Syms: slices.Repeat([]string{"a"}, api.MaxSyms+1)}, api.ErrLong},
		{"kind alone", api.Schema{Types: []api.Type{unkind}, Syms: []string{"a"}}, api.ErrKind},
	} {
		wantCheck(t, c.name, c.s, c.wanted)
	}
}

// odd is a schema that Check refuses: names are no names, and stand more than once.
func odd() api.Schema {
	return api.Schema{
		Types: []api.Type{
			{Name: "T", Fields: []api.Field{{Name: "x", Kind: api.Int}, {Name: "", Kind: 77}, {Name: "x", Kind: api.Real}, {Name: "SEQ", Kind: -5}}},
			{Name: "", Fields: nil},
			{Name: "T", Fields: []api.Field{{Name: "y", Kind: api.Bool}}},
			{Name: "U", Fields: []api.Field{{Name: "y", Kind: api.Sym}, {Name: "x", Kind: api.Real}}},
		},
		Syms: []string{"b", "", "a", "b", "a b"},
	}
}

// P3.3: places are those of the first ones, of any schema.
func TestPlaces(t *testing.T) {
	s := odd()
	for name, wanted := range map[string]int{"T": 0, "": 1, "U": 3, "t": -1, "V": -1, "T ": -1, "x": -1} {
		if got := schema.Type(s, name); got != wanted {
			t.Errorf("Type(%q): %d", name, got)
		}
	}
	for name, wanted := range map[string]int{"b": 0, "": 1, "a": 2, "a b": 4, "B": -1, "c": -1} {
		if got := schema.Sym(s, name); got != wanted {
			t.Errorf("Sym(%q): %d", name, got)
		}
	}
	for _, c := range []struct {
		t      int
		name   string
		wanted int
	}{
		{0, "x", 0}, {0, "", 1}, {0, "SEQ", 3}, {0, "y", -1}, {0, "TIME", -1}, {1, "x", -1}, {1, "", -1}, {2, "y", 0}, {2, "x", -1}, {3, "x", 1},
		{-1, "x", -1}, {4, "x", -1}, {math.MinInt, "x", -1}, {math.MaxInt, "x", -1},
	} {
		if got := schema.Attr(s, c.t, c.name); got != c.wanted {
			t.Errorf("Attr(%d, %q): %d", c.t, c.name, got)
		}
	}
	if a, b, c := schema.Type(api.Schema{}, ""), schema.Attr(api.Schema{}, 0, ""), schema.Sym(api.Schema{}, ""); a != -1 || b != -1 || c != -1 {
		t.Errorf("of no schema: %d, %d, %d", a, b, c)
	}
}

// P3.3
func TestKind(t *testing.T) {
	s := odd()
	for _, c := range []struct{ t, a, wanted int }{
		{0, -1, api.Int}, {0, 0, api.Int}, {0, 1, 77}, {0, 2, api.Real}, {0, 3, -5}, {0, 4, 0}, {0, -2, 0}, {0, math.MinInt, 0}, {0, math.MaxInt, 0},
		{1, -1, api.Int}, {1, 0, 0}, {1, -2, 0},
		{2, 0, api.Bool}, {3, -1, api.Int}, {3, 0, api.Sym}, {3, 1, api.Real}, {3, 2, 0},
		{4, -1, 0}, {4, 0, 0}, {-1, -1, 0}, {-1, 0, 0}, {math.MinInt, -1, 0}, {math.MaxInt, -1, 0}, {math.MaxInt, math.MaxInt, 0},
	} {
		if got := schema.Kind(s, c.t, c.a); got != c.wanted {
			t.Errorf("Kind(%d, %d): %d, wanted %d", c.t, c.a, got, c.wanted)
		}
	}
	if got := schema.Kind(api.Schema{}, 0, -1); got != 0 {
		t.Errorf("of no schema: %d", got)
	}
}

// P3.3
func TestKey(t *testing.T) {
	for name, wanted := range map[string][]int{"x": {0, -1, -1, 1}, "y": {-1, -1, 0, 0}, "": {1, -1, -1, -1}, "TIME": {-1, -1, -1, -1}} {
		if got := schema.Key(odd(), name); !slices.Equal(got, wanted) {
			t.Errorf("Key(%q): %v", name, got)
		}
	}
	if got := schema.Key(api.Schema{Syms: []string{"x"}}, "x"); len(got) != 0 {
		t.Errorf("of no types: %v", got)
	}
	if got := schema.Key(wide(100, 20, 0), "f10"); !slices.Equal(got, slices.Repeat([]int{10}, 100)) {
		t.Errorf("of many types: %v", got)
	}
}

// The rule on memory: an answer is new each time, and what is handed in isn't changed, spare room included.
func TestMemory(t *testing.T) {
	s := roomy()
	calls := func() {
		schema.Check(s)
		schema.Type(s, "B")
		schema.Attr(s, 1, "z")
		schema.Kind(s, 1, 0)
		schema.Sym(s, "c")
		schema.Key(s, "y")
	}
	calls()
	wanted := roomy()
	if !slices.Equal(s.Syms[:cap(s.Syms)], wanted.Syms[:cap(wanted.Syms)]) {
		t.Error("the symbols are changed")
	}
	for i, x := range s.Types[:cap(s.Types)] {
		y := wanted.Types[:cap(wanted.Types)][i]
		if x.Name != y.Name || !slices.Equal(x.Fields[:cap(x.Fields)], y.Fields[:cap(y.Fields)]) {
			t.Errorf("the type %d is changed", i)
		}
	}
	first, second := schema.Key(s, "x"), schema.Key(s, "x")
	clear(first[:cap(first)])
	if !slices.Equal(second, []int{0, 1}) {
		t.Error("two answers share memory")
	}
}

// roomy is a schema whose lists have something in their spare room.
func roomy() api.Schema {
	return api.Schema{
		Types: []api.Type{
			{Name: "A", Fields: []api.Field{{Name: "x", Kind: api.Int}, {Name: "y", Kind: api.Bool}, {Name: "spare", Kind: 9}}[:2]},
			{Name: "B", Fields: []api.Field{{Name: "z", Kind: api.Int}, {Name: "x", Kind: api.Bool}, {Name: "spare", Kind: 9}}[:2]},
			{Name: "spare"},
		}[:2],
		Syms: []string{"a", "b", "spare"}[:2],
	}
}
