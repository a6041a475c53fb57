package plan

import (
	"auspice/api"
	"auspice/real"
	"auspice/schema"
	"auspice/value"
)

const (
	timeName  = "TIME"
	timePlace = -1 // where schema's Kind and the nodes have the time, which every event has
)

// node is an expression with its names looked up and its kinds checked; asked is the name of the item whose event is asked.
func (m *maker) node(e api.Expr, asked string) (api.Node, fault) {
	if len(e.Args) == 0 {
		return m.leaf(e, asked)
	}
	n, kinds := api.Node{Op: e.Op}, []int{}
	for _, arg := range e.Args {
		a, f := m.node(arg, asked)
		if f.err != api.OK {
			return api.Node{}, f
		}
		n.Args, kinds = append(n.Args, a), append(kinds, a.Kind)
	}
	n.Kind = value.Result(e.Op, kinds)
	if n.Kind == api.Poison {
		return api.Node{}, fault{e.At, api.ErrKind}
	}
	return n, fault{}
}

func (m *maker) leaf(e api.Expr, asked string) (api.Node, fault) {
	switch e.Op {
	case api.LitInt:
		return constant(api.Int, uint64(e.N)), fault{}
	case api.LitReal:
		bits, _ := real.Decimal(e.N, e.Scale)
		return constant(api.Real, bits), fault{}
	case api.LitBool:
		return constant(api.Bool, uint64(e.N)), fault{}
	case api.LitSym:
		place := schema.Sym(m.schema, e.Name)
		if place == none {
			return api.Node{}, fault{e.At, api.ErrName}
		}
		return constant(api.Sym, uint64(place)), fault{}
	}
	i, ok := m.items[e.Name]
	switch {
	case !ok:
		return api.Node{}, fault{e.At, api.ErrName}
	case e.Op == api.Count:
		return countOf(e, i)
	}
	return m.attribute(e, i, asked)
}

func constant(kind int, bits uint64) api.Node {
	return api.Node{Op: api.Const, Kind: kind, Value: api.Value{Kind: kind, Bits: bits}}
}

func countOf(e api.Expr, i item) (api.Node, fault) {
	if i.form != api.Many {
		return api.Node{}, fault{e.At, api.ErrKind}
	}
	return api.Node{Op: api.Count, Kind: api.Int, Pos: i.pos}, fault{}
}

// attribute is that of an item's event, or what is made of that of all its events.
func (m *maker) attribute(e api.Expr, i item, asked string) (api.Node, fault) {
	place := timePlace
	if e.Attr != timeName {
		place = schema.Attr(m.schema, i.typ, e.Attr)
		if place == none {
			return api.Node{}, fault{e.At, api.ErrName}
		}
	}
	n := api.Node{Op: e.Op, Kind: schema.Kind(m.schema, i.typ, place), Pos: i.pos, Attr: place}
	switch {
	case e.Op == api.Attr && i.name == asked:
		n.Op, n.Pos = api.Cur, 0
	case e.Op == api.Attr:
		n.Op = api.Of
	case i.form != api.Many || !gathers(e.Op, n.Kind):
		return api.Node{}, fault{e.At, api.ErrKind}
	}
	return n, fault{}
}

// gathers tells whether FIRST to MEAN may be of an attribute of that kind.
func gathers(op, kind int) bool {
	switch op {
	case api.Sum, api.Min, api.Max:
		return kind == api.Int || kind == api.Real
	case api.Mean:
		return kind == api.Real
	}
	return true
}
