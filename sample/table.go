package sample

import (
	"slices"

	"auspice/alloc"
	"auspice/api"
	"auspice/auto"
	"auspice/code"
	"auspice/event"
	"auspice/merge"
	"auspice/rules"
	"auspice/ssa"
)

// Level is the automaton of a plan as the compiler makes it at that level; false: there is none.
func Level(p api.Plan, level int) (api.Auto, bool) {
	switch level {
	case 0:
	case 1:
		p = rules.Fold(p)
	default:
		p = rules.Apply(p)
	}
	a, err := auto.Build(p)
	if err == api.OK && level == 3 {
		a = merge.Merge(a)
	}
	return a, err == api.OK
}

// Coder makes tables of automata by Shop, with code of at most so many registers.
type Coder struct {
	Regs  int
	Share bool // what is alike within a code, and codes that are alike
	codes []api.Code
	err   api.Errno // why there is a code too few
}

// Table is one as which an automaton may be run, with as much alive as may be. It is false, where there is no code of a condition.
func (c *Coder) Table(a api.Auto) (api.Table, bool) {
	c.codes, c.err = nil, api.OK
	s := Shop()
	t := api.Table{Strategy: a.Strategy, Keys: slices.Clone(a.Keys), Kinds: event.Kinds(s), Syms: len(s.Syms), Runs: api.MaxLive, Cells: api.MaxLive}
	for _, s := range a.States {
		row := api.Row{Parent: s.Parent, Type: s.Type, Many: s.Many, Window: s.Window, Bars: c.stops(s.Bars), Leave: c.code(s.Leaves), Guard: c.code(s.Guards)}
		for _, end := range s.Ends {
			row.Ends = append(row.Ends, api.Tail{Branch: end.Branch, Close: c.code(end.Closes), Bars: c.stops(end.Bars)})
		}
		t.States = append(t.States, row)
	}
	t.Codes = c.codes
	return t, c.err == api.OK
}

func (c *Coder) stops(bars []api.Bar) []api.Stop {
	l := []api.Stop{}
	for _, bar := range bars {
		l = append(l, api.Stop{Type: bar.Type, Guard: c.code(bar.Guards)})
	}
	return l
}

// code is the number of that of conditions, -1 of none.
func (c *Coder) code(l []api.Node) int {
	if len(l) == 0 {
		return -1
	}
	made, err := ssa.Make(l, c.Share)
	if err == api.OK {
		made, err = alloc.Fit(made, c.Regs)
	}
	if err != api.OK {
		c.err = err
		return -1
	}
	if at := slices.IndexFunc(c.codes, func(x api.Code) bool { return code.Same(x, made) }); at >= 0 && c.Share {
		return at
	}
	c.codes = append(c.codes, made)
	return len(c.codes) - 1
}
