package drive_test

import (
	"math"
	"math/rand/v2"
	"testing"

	"auspice/api"
	"auspice/auto"
	"auspice/drive"
	"auspice/merge"
	"auspice/plan"
	"auspice/rules"
	"auspice/sample"
)

// P26.1: what each level makes of a query.
func TestAuto(t *testing.T) {
	const text = "PATTERN SEQ(A a, B b) | SEQ(A c, C d) WHERE (a.x > 1 OR FALSE AND b.x > 0) AND c.x > 0 + 1 AND d.TIME - c.TIME <= 3 AND c.x > 1 STRATEGY ANY WITHIN 9"
	x := func(op, pos int) api.Node { return api.Node{Op: op, Kind: api.Int, Pos: pos, Attr: 1} }
	number := func(n int64) api.Node { return api.Node{Op: api.Const, Kind: api.Int, Value: sample.Int(n)} }
	of := func(op, kind int, args ...api.Node) api.Node { return api.Node{Op: op, Kind: kind, Args: args} }
	time := func(op int) api.Node { return api.Node{Op: op, Kind: api.Int, Attr: -1} }
	no := api.Node{Op: api.Const, Kind: api.Bool, Value: sample.Bool(0)}
	ends := func(branch int) []api.End { return []api.End{{Branch: branch}} }
	above := func(op int) api.Node { return of(api.OpGt, api.Bool, x(op, 0), number(1)) }
	within := of(api.OpLe, api.Bool, of(api.OpSub, api.Int, time(api.Cur), time(api.Of)), number(3))
	plainGuard := of(api.OpOr, api.Bool, above(api.Of), of(api.OpAnd, api.Bool, no, of(api.OpGt, api.Bool, x(api.Cur, 0), number(0))))
	plainFirst := of(api.OpGt, api.Bool, x(api.Cur, 0), of(api.OpAdd, api.Int, number(0), number(1)))
	for level, states := range [][]api.State{
		{
			{Parent: -1, Window: 9},
			{Parent: 0, Type: 1, Window: 9, Guards: []api.Node{plainGuard}, Ends: ends(0)},
			{Parent: -1, Window: 9, Guards: []api.Node{plainFirst, above(api.Cur)}},
			{Parent: 2, Type: 2, Window: 9, Guards: []api.Node{within}, Ends: ends(1)},
		}, {
			{Parent: -1, Window: 9},
			{Parent: 0, Type: 1, Window: 9, Guards: []api.Node{above(api.Of)}, Ends: ends(0)},
			{Parent: -1, Window: 9, Guards: []api.Node{above(api.Cur), above(api.Cur)}},
			{Parent: 2, Type: 2, Window: 9, Guards: []api.Node{within}, Ends: ends(1)},
		}, {
			{Parent: -1, Window: 9, Guards: []api.Node{above(api.Cur)}},
			{Parent: 0, Type: 1, Window: 9, Ends: ends(0)},
			{Parent: -1, Window: 3, Guards: []api.Node{above(api.Cur)}},
			{Parent: 2, Type: 2, Window: 3, Ends: ends(1)},
		}, {
			{Parent: -1, Window: 9, Guards: []api.Node{above(api.Cur)}},
			{Parent: 0, Type: 1, Window: 9, Ends: ends(0)},
			{Parent: -1, Window: 3, Guards: []api.Node{above(api.Cur)}},
			{Parent: 2, Type: 2, Window: 3, Ends: ends(1)},
		},
	} {
		if got, wanted := built(t, sample.Shop(), text, level), (api.Auto{Strategy: api.Any, States: states}); dump(got) != dump(wanted) {
			t.Errorf("level %d:\n%+v, wanted\n%+v", level, got, wanted)
		}
	}
	for level, states := range []int{4, 4, 4, 3} {
		a := built(t, market(), "PATTERN SEQ(Buy a, Sell b) | SEQ(Buy c, Tick d) STRATEGY NEXT WITHIN 9", level)
		if len(a.States) != states {
			t.Errorf("level %d: %d states", level, len(a.States))
		}
	}
}

// P26.1: which error there is, the first one that applies.
func TestAutoErrors(t *testing.T) {
	long := string(make([]byte, api.MaxText+1))
	for _, c := range []struct {
		s      api.Schema
		text   string
		level  int
		at     int
		wanted api.Errno
	}{
		{market(), "PATTERN SEQ(Buy a) STRATEGY ANY WITHIN 5", 4, 0, api.ErrArg},
		{market(), "PATTERN SEQ(Buy a) STRATEGY ANY WITHIN 5", -1, 0, api.ErrArg},
		{market(), "PATTERN", math.MaxInt, 0, api.ErrArg},
		{api.Schema{Types: make([]api.Type, 99)}, long, math.MinInt, 0, api.ErrArg},
		{market(), long, 0, 0, api.ErrLong},
		{market(), "PATTERN", 1, 7, api.ErrSyntax},
		{market(), "PATTERN #", 2, 8, api.ErrToken},
		{api.Schema{Types: make([]api.Type, 99)}, "PATTERN", 3, 7, api.ErrSyntax},
		{market(), "PATTERN SEQ(Buy a) STRATEGY ANY WITHIN 1152921504606846977", 0, 39, api.ErrArg},
		{api.Schema{Types: make([]api.Type, 99)}, "PATTERN SEQ(Bye a) STRATEGY ANY WITHIN 5", 0, 0, api.ErrLong},
		{api.Schema{Types: make([]api.Type, 9)}, "PATTERN SEQ(Bye a) STRATEGY ANY WITHIN 5", 1, 0, api.ErrName},
		{market(), "PATTERN SEQ(Buy a, Bye b) STRATEGY ANY WITHIN 5", 2, 19, api.ErrName},
		{market(), "PATTERN SEQ(!Buy a) STRATEGY ANY WITHIN 5", 3, 12, api.ErrPlace},
		{market(), "PATTERN SEQ(Buy a, Tick b) STRATEGY ANY WITHIN 5 PARTITION BY n", 0, 62, api.ErrName},
		{market(), "PATTERN SEQ(Buy a) WHERE a.n = TRUE STRATEGY ANY WITHIN 5", 1, 29, api.ErrKind},
	} {
		a, at, err := drive.Auto(c.s, c.text, c.level)
		wantRefused(t, c.text[:min(len(c.text), 80)], a, at, err, c.at, c.wanted)
	}
}

// P26.1: queries of all sorts; each level is made of the layers' calls.
func TestAutoRandom(t *testing.T) {
	r := rand.New(rand.NewPCG(26, 1))
	merged, errs := 0, map[api.Errno]int{}
	for range 2000 {
		w := newWorld(r)
		text := w.query()
		p, wantedAt, wantedErr := planned(w.schema, text)
		errs[wantedErr]++
		rewritten := []api.Plan{p, rules.Fold(p), rules.Apply(p), rules.Apply(p)}
		for level := range 4 {
			a, at, err := drive.Auto(w.schema, text, level)
			if wantedErr != api.OK {
				wantRefused(t, text, a, at, err, wantedAt, wantedErr)
				continue
			}
			wanted, _ := auto.Build(rewritten[level])
			if level == 3 {
				wanted = merge.Merge(wanted)
				merged += len(auto.Children(built(t, w.schema, text, 2), -1)) - len(auto.Children(wanted, -1))
			}
			if at != 0 || err != api.OK || dump(a) != dump(wanted) {
				t.Fatalf("%s, level %d: %d at %d: %+v, wanted %+v", text, level, err, at, a, wanted)
			}
			if level == 0 && !plan.Same(auto.Plan(a), p) {
				t.Fatalf("%s: another plan: %+v", text, a)
			}
		}
	}
	if errs[api.OK] < 1500 || errs[api.ErrName] < 20 || errs[api.ErrKind] < 20 || merged < 100 {
		t.Errorf("%v, %d states are merged", errs, merged)
	}
}
