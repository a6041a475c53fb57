package drive

import (
	"auspice/api"
	"auspice/auto"
	"auspice/merge"
	"auspice/plan"
	"auspice/rules"
)

// passes are what a level does with a query on its way to code.
type passes struct {
	rewrite func(p api.Plan) api.Plan
	join    func(a api.Auto) api.Auto
	share   bool // what is alike in code, and codes that are alike
}

// passesOf are those of a level; false: there is no such level.
func passesOf(level int) (passes, bool) {
	levels := [...]passes{
		{asItIs[api.Plan], asItIs[api.Auto], false},
		{rules.Fold, asItIs[api.Auto], false},
		{rules.Apply, asItIs[api.Auto], true},
		{rules.Apply, merge.Merge, true},
	}
	if level < 0 || level >= len(levels) {
		return passes{}, false
	}
	return levels[level], true
}

func asItIs[T any](x T) T {
	return x
}

// auto is a query's automaton.
func (p passes) auto(s api.Schema, q api.Query) (api.Auto, int, api.Errno) {
	made, at, err := plan.Make(s, q)
	if err != api.OK {
		return api.Auto{}, at, err
	}
	a, err := auto.Build(p.rewrite(made))
	if err != api.OK {
		return api.Auto{}, 0, err
	}
	return p.join(a), 0, api.OK
}
