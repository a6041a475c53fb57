package run

import (
	"auspice/api"
	"auspice/eval"
	"auspice/vm"
)

// holds tells whether what a code asks of a binding, and of an event, if it asks one, holds.
func (r *Runner) holds(code int, binding *cell, asked ...api.Event) bool {
	if code == none {
		return true
	}
	c := &r.Codes[code]
	inputs := make([]api.Value, len(c.Inputs))
	for i, x := range c.Inputs {
		leaf := api.Node{Op: x.Op, Kind: x.Kind, Pos: x.Pos, Attr: x.Attr}
		inputs[i] = eval.Node(leaf, r.look(x, binding, asked))
	}
	return vm.Run(*c, inputs) == api.Value{Kind: api.Bool, Bits: 1}
}

// look has no more events than an input hangs on, so that it doesn't grow with all that is bound, but where that is summed up.
func (r *Runner) look(x api.Input, binding *cell, asked []api.Event) eval.Look {
	if x.Op == api.Cur {
		return eval.Look{Events: asked}
	}
	k := eval.Look{Bound: make([][]int, x.Pos+1)}
	c := binding.upTo(x.Pos)
	if c == nil {
		return k
	}
	count := 1
	switch x.Op {
	case api.Of, api.First:
		k.Events = []api.Event{c.head.Event}
	case api.Last:
		k.Events = []api.Event{c.Event}
	case api.Count:
		count = c.count // which events these are doesn't matter
	default:
		k.Events = ofLast(c, func(a *arrival) api.Event { return a.Event })
		count = c.count
	}
	k.Bound[x.Pos] = r.below(count)
	return k
}

// below are the numbers from 0 on, so many.
func (r *Runner) below(count int) []int {
	for len(r.numbers) < count {
		r.numbers = append(r.numbers, len(r.numbers))
	}
	return r.numbers[:count]
}
