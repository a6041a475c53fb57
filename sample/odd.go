package sample

import (
	"math"

	"auspice/api"
)

// Odd makes things with anything in them. Pick picks: a number from 0 on, below the one that it is handed.
type Odd struct {
	Pick func(n int) int
}

// Number is a small one as a rule.
func (o Odd) Number() int {
	if o.Pick(4) > 0 {
		return o.Pick(4) - 1
	}
	return []int{math.MinInt, -2, 4, 9, 1 << 40, math.MaxInt}[o.Pick(6)]
}

func (o Odd) Node(deep int) api.Node {
	ops := []int{-1, 0, api.OpAdd, api.OpSub, api.OpEq, api.OpLe, api.OpGe, api.OpAnd, api.OpOr, api.OpNot, api.LitInt, api.Attr, api.Count, api.First, api.Last, api.Sum, api.Mean, api.Const, api.Const, api.Cur, api.Of, 99}
	n := api.Node{Op: ops[o.Pick(len(ops))], Kind: o.Number(), Pos: o.Number(), Attr: o.Number(), Value: Bool(uint64(o.Pick(3)))}
	for range o.Pick(3) * min(deep, 1) {
		n.Args = append(n.Args, o.Node(deep-1))
	}
	return n
}

// Nodes are most often such as hold, or none.
func (o Odd) Nodes() []api.Node {
	l := []api.Node{}
	for range o.Pick(3) {
		if o.Pick(3) > 0 {
			l = append(l, api.Node{Op: api.Const, Value: Bool(1)})
		} else {
			l = append(l, o.Node(3))
		}
	}
	return l
}

func (o Odd) Plan() api.Plan {
	p := api.Plan{Strategy: o.Number()}
	for range o.Pick(4) * o.Pick(2) {
		p.Keys = append(p.Keys, o.Number())
	}
	for range o.Pick(3) {
		b := api.Branch{Id: o.Number(), Window: int64(o.Number())}
		for range o.Pick(4) {
			b.Parts = append(b.Parts, api.Part{Form: []int{api.One, api.Many, api.Not, o.Number()}[o.Pick(4)], Type: o.Number(), Guards: o.Nodes(), Closes: o.Nodes()})
		}
		p.Branches = append(p.Branches, b)
	}
	return p
}

func (o Odd) Auto() api.Auto {
	a := api.Auto{Strategy: o.Number(), Keys: o.Plan().Keys}
	for i := range o.Pick(5) {
		s := api.State{Parent: o.Pick(i+1) - 1, Type: max(0, o.Number()), Many: o.Pick(2) == 0, Window: int64(o.Pick(9)), Bars: o.bars(), Leaves: o.Nodes(), Guards: o.Nodes()}
		if o.Pick(9) == 0 {
			s.Parent, s.Type, s.Window = o.Number(), o.Number(), int64(o.Number())
		}
		for range o.Pick(3) {
			s.Ends = append(s.Ends, api.End{Branch: max(o.Pick(2), o.Number()), Closes: o.Nodes(), Bars: o.bars()})
		}
		a.States = append(a.States, s)
	}
	return a
}

func (o Odd) bars() []api.Bar {
	l := []api.Bar{}
	for range o.Pick(3) * o.Pick(2) {
		l = append(l, api.Bar{Type: o.Number(), Guards: o.Nodes()})
	}
	return l
}

// Circle is a node of so many Args, each of which is within itself, and within the others.
func Circle(op, width int) api.Node {
	l := make([]api.Node, width)
	for i := range l {
		l[i] = api.Node{Op: op, Kind: api.Bool, Args: l}
	}
	return l[width-1]
}

// Shared is twice itself, so many times over: both Args of a node have one list.
func Shared(op, times int, n api.Node) api.Node {
	for range times {
		n = api.Node{Op: op, Kind: n.Kind, Args: []api.Node{n, n}}
	}
	return n
}

// Far is what stands below so many nodes.
func Far(op, times int, n api.Node) api.Node {
	for range times {
		n = api.Node{Op: op, Kind: n.Kind, Args: []api.Node{n}}
	}
	return n
}

// Changes are of one thing that a node has each, Args aside.
func Changes() []func(n *api.Node) {
	return []func(n *api.Node){
		func(n *api.Node) { n.Op++ },
		func(n *api.Node) { n.Kind-- },
		func(n *api.Node) { n.Value.Kind++ },
		func(n *api.Node) { n.Value.Bits ^= 1 << 63 },
		func(n *api.Node) { n.Pos ^= math.MinInt },
		func(n *api.Node) { n.Attr-- },
	}
}

// Rooms are the addresses of all nodes that a list and those below it have room for.
func Rooms(l []api.Node) []*api.Node {
	rooms := []*api.Node{}
	l = l[:cap(l)]
	for i := range l {
		rooms = append(rooms, &l[i])
		rooms = append(rooms, Rooms(l[i].Args)...)
	}
	return rooms
}

// Apart tells whether none of some lists, nor of those below them, has room in common with another one, or with others.
func Apart(lists, others [][]api.Node) bool {
	held := map[*api.Node]struct{}{}
	for _, l := range others {
		for _, room := range Rooms(l) {
			held[room] = struct{}{}
		}
	}
	for _, l := range lists {
		for _, room := range Rooms(l) {
			if _, ok := held[room]; ok {
				return false
			}
			held[room] = struct{}{}
		}
	}
	return true
}
