package drive_test

import (
	"bytes"
	"fmt"
	"math"
	"math/rand/v2"
	"strings"
	"testing"

	"auspice/api"
	"auspice/drive"
	"auspice/lex"
	"auspice/load"
	"auspice/plan"
	"auspice/prove"
	"auspice/query"
	"auspice/sample"
)

// P26.2: which error there is, the first one that applies.
func TestCompileErrors(t *testing.T) {
	const good = "PATTERN SEQ(Buy a, Sell b) WHERE a.n > 1 AND b.n > 2 STRATEGY ANY WITHIN 5"
	bad := api.Schema{Types: make([]api.Type, 99)}
	bounds := func(change func(b *api.Bounds)) api.Bounds {
		b := most()
		change(&b)
		return b
	}
	regs := bounds(func(b *api.Bounds) { b.Regs = 1 })
	small := bounds(func(b *api.Bounds) { b.Text, b.Nodes, b.States = 0, 0, 0 })
	short := bounds(func(b *api.Bounds) { b.Text = len(good) - 1 })
	nodes := bounds(func(b *api.Bounds) { b.Nodes = 6 })
	states := bounds(func(b *api.Bounds) { b.States = 1 })
	both := bounds(func(b *api.Bounds) { b.Nodes, b.States = 0, 0 })
	for i, c := range []struct {
		s      api.Schema
		text   string
		level  int
		b      api.Bounds
		at     int
		wanted api.Errno
	}{
		{bad, "PATTERN", 4, small, 0, api.ErrArg},
		{bad, "PATTERN", -1, most(), 0, api.ErrArg},
		{bad, "PATTERN", 0, regs, 0, api.ErrArg},
		{bad, "PATTERN", 0, api.Bounds{}, 0, api.ErrArg},
		{bad, "PATTERN", 1, small, 0, api.ErrBound},
		{bad, strings.Repeat("#", api.MaxText+1), 2, most(), api.MaxText, api.ErrBound},
		{market(), good, 3, short, len(good) - 1, api.ErrBound},
		{bad, "", 0, small, 0, api.ErrSyntax},
		{bad, "PATTERN", 3, both, 7, api.ErrSyntax},
		{bad, "PATTERN #", 2, both, 8, api.ErrToken},
		{bad, good, 1, both, 0, api.ErrLong},
		{api.Schema{}, good, 0, both, 12, api.ErrName},
		{market(), good[:37] + "= TRUE STRATEGY ANY WITHIN 5", 1, both, 37, api.ErrKind},
		{market(), good, 2, both, 0, api.ErrBound},
		{market(), good, 3, nodes, 0, api.ErrBound},
		{market(), good, 0, states, 0, api.ErrBound},
	} {
		made, at, err := drive.Compile(c.s, c.text, c.level, c.b)
		wantRefused(t, fmt.Sprint(i), made, at, err, c.at, c.wanted)
	}
}

// P26.2: bounds at their edges, those that may be, and those that may not.
func TestBounds(t *testing.T) {
	const text = "PATTERN SEQ(Buy a) STRATEGY ANY WITHIN 5"
	for _, x := range []struct {
		name        string
		field       func(b *api.Bounds) *int
		least, most int
		needed      int
		at          int
	}{
		{"Text", func(b *api.Bounds) *int { return &b.Text }, 0, api.MaxText, len(text), 1},
		{"Nodes", func(b *api.Bounds) *int { return &b.Nodes }, 0, api.MaxNodes, 0, 0},
		{"States", func(b *api.Bounds) *int { return &b.States }, 0, api.MaxStates, 1, 0},
		{"Regs", func(b *api.Bounds) *int { return &b.Regs }, 2, api.MaxRegs, 2, 0},
		{"Runs", func(b *api.Bounds) *int { return &b.Runs }, 1, api.MaxLive, 1, 0},
		{"Cells", func(b *api.Bounds) *int { return &b.Cells }, 1, api.MaxLive, 1, 0},
	} {
		for _, n := range []int{math.MinInt, -1, x.least - 1, x.least, x.least + 1, x.needed - 1, x.needed, x.most - 1, x.most, x.most + 1, math.MaxInt} {
			wantedAt, wanted := 0, api.OK
			switch {
			case n < x.least || n > x.most:
				wanted = api.ErrArg
			case n < x.needed:
				wantedAt, wanted = n*x.at, api.ErrBound
			}
			for level := range 4 {
				b := most()
				*x.field(&b) = n
				made, at, err := drive.Compile(market(), text, level, b)
				if at != wantedAt || err != wanted || (err == api.OK) != (len(made) > 0) {
					t.Errorf("%s %d: %d at %d, wanted %d at %d; %d bytes", x.name, n, err, at, wanted, wantedAt, len(made))
				}
			}
		}
	}
}

// P26.2: what is bounded: the query's nodes, as it is written; the states of the level's automaton.
func TestBounded(t *testing.T) {
	for _, c := range []struct {
		text   string
		nodes  int
		states [4]int
	}{
		{"PATTERN SEQ(Buy a) STRATEGY ANY WITHIN 5", 0, [4]int{1, 1, 1, 1}},
		{"PATTERN SEQ(Buy a) WHERE TRUE STRATEGY ANY WITHIN 5", 1, [4]int{1, 1, 1, 1}},
		{"PATTERN SEQ(Buy a, !Tick t, Sell+ b, !Tick u) WHERE a.n > 1 AND (b.n + 2 > 3 AND (TRUE)) STRATEGY ANY WITHIN 5", 11, [4]int{2, 2, 2, 2}},
		{"PATTERN SEQ(Buy a, Sell b) | SEQ(Buy c, Tick d) | SEQ(Buy e, Sell f, Sell g) WHERE d.p > 0.0 STRATEGY ANY WITHIN 5", 3, [4]int{7, 7, 7, 4}},
		{"PATTERN SEQ(Buy a, Sell b) | SEQ(Buy c) WHERE (1 > 2 OR a.n > 1 AND 2 < 1) STRATEGY ANY WITHIN 5", 11, [4]int{3, 3, 1, 1}},
		{"PATTERN SEQ(Buy a, Sell b) | SEQ(Buy c) WHERE NOT TRUE STRATEGY ANY WITHIN 5", 2, [4]int{3, 3, 0, 0}},
	} {
		for level, states := range c.states {
			b := least()
			b.Nodes, b.States = c.nodes, states
			compiled(t, market(), c.text, level, b)
			b.States = states - 1
			if states > 0 {
				made, at, err := drive.Compile(market(), c.text, level, b)
				wantRefused(t, c.text, made, at, err, 0, api.ErrBound)
			}
			b.Nodes, b.States = c.nodes-1, states
			if c.nodes > 0 {
				made, at, err := drive.Compile(market(), c.text, level, b)
				wantRefused(t, c.text, made, at, err, 0, api.ErrBound)
			}
		}
	}
}

// wantImage holds an image against what P26.2 and P6 say of it.
func wantImage(t *testing.T, s api.Schema, text string, level int, b api.Bounds) []byte {
	t.Helper()
	made := compiled(t, s, text, level, b)
	x := loaded(t, made)
	if x.Runs != b.Runs || x.Cells != b.Cells {
		t.Fatalf("%s: Runs %d, Cells %d, wanted %+v", text, x.Runs, x.Cells, b)
	}
	for _, c := range x.Codes {
		if c.Regs > b.Regs {
			t.Fatalf("%s: %d registers, wanted %d", text, c.Regs, b.Regs)
		}
	}
	if !prove.Validate(s, built(t, s, text, level), made) {
		t.Fatalf("%s, level %d, %+v: not valid: %+v", text, level, b, x)
	}
	return made
}

// respelt is a query's text written otherwise: with other blanks, and the conditions in brackets once more.
func respelt(r *rand.Rand, text string) string {
	text = strings.Replace(text, " WHERE ", " WHERE (", 1)
	if strings.Contains(text, " WHERE ") {
		text = strings.Replace(text, " STRATEGY ", ") STRATEGY ", 1)
	}
	l, _, err := lex.Scan(text)
	if err != api.OK {
		return text
	}
	b := strings.Builder{}
	for _, token := range l {
		b.WriteString([]string{" ", "\t", "\n", "\r\n", "  "}[r.IntN(5)])
		b.WriteString(lex.Spell(token))
	}
	return b.String()
}

// P26.2: queries of all sorts, of all levels and bounds: what each image is, and that it doesn't hang on how the text is written.
func TestImages(t *testing.T) {
	r := rand.New(rand.NewPCG(26, 2))
	brackets, different := 0, 0
	for range 1500 {
		w := newWorld(r)
		text := w.query()
		if _, _, err := planned(w.schema, text); err != api.OK {
			continue
		}
		q, _, _ := query.Parse(text)
		printed, _ := query.Print(q)
		other := respelt(r, text)
		for level := range 4 {
			b := api.Bounds{Text: api.MaxText, Nodes: api.MaxNodes, States: api.MaxStates, Regs: 2 + r.IntN(15), Runs: 1 + r.IntN(api.MaxLive), Cells: 1 + r.IntN(api.MaxLive)}
			made := wantImage(t, w.schema, text, level, b)
			for _, same := range []string{text, printed, other} {
				parsed, _, err := query.Parse(same)
				if err != api.OK { // the brackets may be too deep
					continue
				}
				if !query.Same(parsed, q) {
					t.Fatalf("%s isn't %s", same, text)
				}
				if !bytes.Equal(compiled(t, w.schema, same, level, b), made) {
					t.Fatalf("%s, level %d: not the image of %s", same, level, text)
				}
				brackets++
			}
			if next := compiled(t, w.schema, text, (level+1)%4, b); !bytes.Equal(next, made) {
				different++
			}
		}
	}
	if brackets < 12000 || different < 1000 {
		t.Errorf("%d texts, %d levels differ", brackets, different)
	}
}

// P26.2: names alone don't matter to an image; kinds, symbols and places do.
func TestHangsOnSchema(t *testing.T) {
	const text = "PATTERN SEQ(A a, B+ b) WHERE b.x > a.x AND a.k = 'bob' STRATEGY NEXT WITHIN 9"
	renamed := sample.Shop()
	renamed.Types[0].Name, renamed.Types[0].Fields[1].Name, renamed.Syms[1] = "Z", "y", "zoe"
	other := strings.NewReplacer("(A ", "(Z ", "a.x", "a.y", "bob", "zoe").Replace(text)
	for level := range 4 {
		if !bytes.Equal(compiled(t, sample.Shop(), text, level, most()), compiled(t, renamed, other, level, most())) {
			t.Errorf("level %d: the names are in it", level)
		}
		more := sample.Shop()
		more.Syms = append(more.Syms, "cid")
		if bytes.Equal(compiled(t, sample.Shop(), text, level, most()), compiled(t, more, text, level, most())) {
			t.Errorf("level %d: a symbol more isn't in it", level)
		}
	}
}

// great is a query of as many branches and items as may be, with that condition.
func great(condition string) string {
	branches := []string{}
	for b := range api.MaxBranches {
		items := []string{}
		for i := range api.MaxItems {
			items = append(items, fmt.Sprintf("A%s i%d%d", []string{"", "+"}[i%2], b, i))
		}
		branches = append(branches, "SEQ("+strings.Join(items, ", ")+")")
	}
	return "PATTERN " + strings.Join(branches, " | ") + " WHERE " + condition + " STRATEGY NEXT WITHIN 9"
}

// P2, P26.2: the greatest queries there are become images too, whatever the bounds.
func TestGreatest(t *testing.T) {
	number := func(i int) string { return fmt.Sprint(math.MaxInt64 - i) }
	var sum func(deep int) string
	sum = func(deep int) string { // of 2 to the power of deep operands, so that many of them wait
		if deep == 0 {
			return "i00.x"
		}
		return "(" + sum(deep-1) + " - " + sum(deep-1) + ")"
	}
	row := []string{}
	for i := range 100 {
		row = append(row, number(i))
	}
	lists := []string{}
	for i := range 50 {
		lists = append(lists, fmt.Sprintf("i%d%d.x > %d", i%4, i/4%4*2, i))
	}
	shared := []string{}
	for range 50 {
		shared = append(shared, "i00.x > i00.x")
	}
	for what, c := range map[string]struct {
		condition string
		nodes     int
	}{
		"constants in all branches":   {strings.Join(row[:99], " + ") + " > 1", 199},
		"a deep tree of operands":     {sum(6) + " + " + sum(5) + " > 1", 193},
		"conditions in many places":   {strings.Join(lists, " AND "), 199},
		"conditions that are alike":   {strings.Join(shared, " AND "), 199},
		"one condition that is deep":  {strings.Repeat("-(", 15) + "i00.x" + strings.Repeat(")", 15) + " > " + strings.Join(row[:91], " * "), 198},
		"nothing but what may be any": {strings.TrimSuffix(strings.Repeat("TRUE OR ", 100), " OR "), 199},
	} {
		text := great(c.condition)
		q, at, err := query.Parse(text)
		if err != api.OK || query.Nodes(q) != c.nodes {
			t.Fatalf("%s: %d at %d, %d nodes", what, err, at, query.Nodes(q))
		}
		if _, _, err := plan.Make(sample.Shop(), q); err != api.OK {
			t.Fatalf("%s: %d", what, err)
		}
		for level := range 4 {
			for regs := 2; regs <= api.MaxRegs; regs++ {
				b := least()
				b.Regs = regs
				wantImage(t, sample.Shop(), text, level, b)
			}
		}
	}
}

// P26.2: levels 0 and 1 have code without sharing, the others with it.
func TestSharing(t *testing.T) {
	const text = "PATTERN SEQ(A a, A b) WHERE b.x * b.x > b.x * b.x + 2 STRATEGY NEXT WITHIN 9"
	for level, wanted := range []int{10, 10, 6, 6} {
		x := loaded(t, compiled(t, sample.Shop(), text, level, most()))
		if len(x.Codes) != 1 || len(x.Codes[0].List) != wanted {
			t.Errorf("level %d: %+v", level, x.Codes)
		}
	}
	if err := load.Verify(loaded(t, compiled(t, sample.Shop(), text, 0, least()))); err != api.OK {
		t.Errorf("with two registers: %d", err)
	}
}
