package fold

import (
	"slices"

	"auspice/api"
	"auspice/value"
)

// shrink is a node whose Args are folded; its methods are the ways to make it smaller, each true where it applies.
type shrink struct {
	api.Node
}

// folded is what the first way that applies makes of a node.
func folded(n api.Node) api.Node {
	if len(n.Args) == 0 {
		return n
	}
	s := shrink{n}
	for _, way := range [...]func() (api.Node, bool){s.reckoned, s.decided, s.other, s.twiceNot} {
		if smaller, ok := way(); ok {
			return smaller
		}
	}
	return n
}

func (s shrink) reckoned() (api.Node, bool) {
	if s.Op < api.OpAdd || s.Op > api.OpNan {
		return api.Node{}, false
	}
	args := make([]api.Value, len(s.Args))
	for i, arg := range s.Args {
		if arg.Op != api.Const {
			return api.Node{}, false
		}
		args[i] = arg.Value
	}
	return s.constant(value.Apply(s.Op, args)), true
}

func (s shrink) constant(v api.Value) api.Node {
	return api.Node{Op: api.Const, Kind: s.Kind, Value: v}
}

// decided: one operand alone says what an OpAnd or OpOr is.
func (s shrink) decided() (api.Node, bool) {
	strong := truth(s.Op == api.OpOr)
	if !s.joinsTwo() || !slices.ContainsFunc(s.Args, is(strong)) {
		return api.Node{}, false
	}
	return s.constant(strong), true
}

// other: one operand of an OpAnd or OpOr says nothing.
func (s shrink) other() (api.Node, bool) {
	if !s.joinsTwo() {
		return api.Node{}, false
	}
	switch slices.IndexFunc(s.Args, is(truth(s.Op == api.OpAnd))) {
	case 0:
		return s.Args[1], true
	case 1:
		return s.Args[0], true
	}
	return api.Node{}, false
}

func (s shrink) twiceNot() (api.Node, bool) {
	if !negates(s.Node) || !negates(s.Args[0]) {
		return api.Node{}, false
	}
	return s.Args[0].Args[0], true
}

func (s shrink) joinsTwo() bool {
	return (s.Op == api.OpAnd || s.Op == api.OpOr) && len(s.Args) == 2
}

func negates(n api.Node) bool {
	return n.Op == api.OpNot && len(n.Args) == 1
}

// is tells of a node whether it is a Const of that value.
func is(v api.Value) func(n api.Node) bool {
	return func(n api.Node) bool {
		return n.Op == api.Const && n.Value == v
	}
}

func truth(yes bool) api.Value {
	if yes {
		return api.Value{Kind: api.Bool, Bits: 1}
	}
	return api.Value{Kind: api.Bool, Bits: 0}
}
