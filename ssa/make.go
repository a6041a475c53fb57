package ssa

import (
	"auspice/api"
	"auspice/code"
	"auspice/nodes"
	"auspice/tree"
)

// mostRegs is how many registers leave room for the instruction that tells.
const mostRegs = api.MaxCode - 1

// outgrown is what a maker gives up with (by panic) where there would be too many instructions.
type outgrown struct{}

// wellMade tells whether there are conditions, all nodes of which are such as code is made of. It looks at each once, wherever it stands.
func wellMade(l []api.Node) bool {
	root := api.Node{Args: l}
	for n := range tree.Upward(&root, nodes.Args) {
		if n != &root && !hasCode(n) {
			return false
		}
	}
	return len(l) > 0
}

func hasCode(n *api.Node) bool {
	if len(n.Args) == 0 {
		return nodes.IsLeaf(n.Op)
	}
	return len(n.Args) == code.Operands(n.Op)
}

// maker writes the code of conditions.
type maker struct {
	writer
	share   bool
	written map[api.Ins]int   // with share: the registers of instructions, their Dst being 0 here
	known   map[*api.Node]int // with share: the registers of nodes, so that none is gone through again
}

func newMaker(share bool) *maker {
	return &maker{writer: newWriter(), share: share, written: map[api.Ins]int{}, known: map[*api.Node]int{}}
}

// all is the register that is told of conditions.
func (m *maker) all(l []api.Node) int {
	told := m.node(&l[0], 1)
	for i := range l[1:] {
		told = m.add(api.Ins{Op: api.OpAnd, A: told, B: m.node(&l[1+i], 1)})
	}
	return told
}

// node is the register of a node that stands below others, so many with it. Each of them has a register of its own, with share too, since it has one behind those of its operands: so a tree that is too deep, or round, is given up here.
func (m *maker) node(n *api.Node, deep int) int {
	if deep > mostRegs {
		panic(outgrown{})
	}
	if reg, ok := m.known[n]; ok {
		return reg
	}
	reg := m.add(m.instruction(n, deep))
	if m.share {
		m.known[n] = reg
	}
	return reg
}

func (m *maker) instruction(n *api.Node, deep int) api.Ins {
	switch {
	case len(n.Args) == 1:
		return api.Ins{Op: n.Op, A: m.node(&n.Args[0], deep+1)}
	case len(n.Args) == 2:
		return api.Ins{Op: n.Op, A: m.node(&n.Args[0], deep+1), B: m.node(&n.Args[1], deep+1)}
	case n.Op == api.Const:
		return m.constant(n.Value)
	}
	return m.input(api.Input{Op: n.Op, Kind: n.Kind, Pos: n.Pos, Attr: n.Attr})
}

// add is the register of an instruction, which is written, unless it is shared.
func (m *maker) add(i api.Ins) int {
	if reg, ok := m.written[i]; ok {
		return reg
	}
	if len(m.list) == mostRegs {
		panic(outgrown{})
	}
	reg := m.write(i)
	if m.share {
		m.written[i] = reg
	}
	return reg
}
