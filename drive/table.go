package drive

import (
	"slices"

	"auspice/alloc"
	"auspice/api"
	"auspice/code"
	"auspice/event"
	"auspice/ssa"
)

// mayBe tells whether bounds are such as there may be.
func mayBe(b api.Bounds) bool {
	return within(b.Text, 0, api.MaxText) && within(b.Nodes, 0, api.MaxNodes) && within(b.States, 0, api.MaxStates) &&
		within(b.Regs, 2, api.MaxRegs) && within(b.Runs, 1, api.MaxLive) && within(b.Cells, 1, api.MaxLive)
}

func within(n, least, most int) bool {
	return n >= least && n <= most
}

// table is an automaton as it goes into an image.
func table(s api.Schema, a api.Auto, share bool, b api.Bounds) (api.Table, api.Errno) {
	c := coder{share: share, regs: b.Regs}
	rows := c.rows(a.States)
	return api.Table{
		Strategy: a.Strategy,
		Keys:     a.Keys,
		Kinds:    event.Kinds(s),
		Syms:     len(s.Syms),
		Runs:     b.Runs,
		Cells:    b.Cells,
		States:   rows,
		Codes:    c.codes,
	}, c.err
}

// coder makes code of conditions.
type coder struct {
	share bool
	regs  int
	codes []api.Code
	err   api.Errno // why code couldn't be made: conditions of a plan aren't such
}

func (c *coder) rows(l []api.State) []api.Row {
	rows := []api.Row{}
	for _, s := range l {
		rows = append(rows, api.Row{
			Parent: s.Parent,
			Type:   s.Type,
			Many:   s.Many,
			Window: s.Window,
			Bars:   c.stops(s.Bars),
			Leave:  c.number(s.Leaves),
			Guard:  c.number(s.Guards),
			Ends:   c.tails(s.Ends),
		})
	}
	return rows
}

func (c *coder) stops(l []api.Bar) []api.Stop {
	stops := []api.Stop{}
	for _, bar := range l {
		stops = append(stops, api.Stop{Type: bar.Type, Guard: c.number(bar.Guards)})
	}
	return stops
}

func (c *coder) tails(l []api.End) []api.Tail {
	tails := []api.Tail{}
	for _, end := range l {
		tails = append(tails, api.Tail{Branch: end.Branch, Close: c.number(end.Closes), Bars: c.stops(end.Bars)})
	}
	return tails
}

// number is that of the code of conditions.
func (c *coder) number(l []api.Node) int {
	const none = -1
	if len(l) == 0 {
		return none
	}
	made, err := ssa.Make(l, c.share)
	if err == api.OK {
		made, err = alloc.Fit(made, c.regs)
	}
	if err != api.OK {
		c.err = err
		return none
	}
	if c.share {
		if at := slices.IndexFunc(c.codes, func(x api.Code) bool { return code.Same(x, made) }); at >= 0 {
			return at
		}
	}
	c.codes = append(c.codes, made)
	return len(c.codes) - 1
}
