package eval

import (
	"auspice/api"
	"auspice/real"
	"auspice/value"
)

// timeAttr is the place of the time among an event's attributes.
const timeAttr = -1

func (k Look) leaf(n *api.Node) api.Value {
	switch n.Op {
	case api.Const:
		return value.Clean(n.Value)
	case api.Cur:
		return k.attribute(k.Cur, n.Attr)
	case api.Count:
		return ofInt(int64(len(k.places(n.Pos))))
	}
	if len(k.places(n.Pos)) == 0 {
		return api.Value{}
	}
	return aggregate(n.Op)(k.attributes(n.Pos, n.Attr))
}

// places are those of the events that a position has.
func (k Look) places(pos int) []int {
	if pos < 0 || pos >= len(k.Bound) {
		return nil
	}
	return k.Bound[pos]
}

// attributes are the same attribute of all events that a position has.
func (k Look) attributes(pos, attr int) []api.Value {
	places := k.places(pos)
	l := make([]api.Value, len(places))
	for i := range len(places) {
		l[i] = k.attribute(places[i], attr)
	}
	return l
}

func (k Look) attribute(place, attr int) api.Value {
	if place < 0 || place >= len(k.Events) {
		return api.Value{}
	}
	e := &k.Events[place]
	switch {
	case attr == timeAttr:
		return ofInt(e.Time)
	case attr < 0 || attr >= len(e.Attrs):
		return api.Value{}
	}
	return value.Clean(e.Attrs[attr])
}

// aggregate is what a leaf makes of the attributes of a position's events, one at least.
func aggregate(op int) func(l []api.Value) api.Value {
	switch op {
	case api.Last:
		return func(l []api.Value) api.Value { return l[len(l)-1] }
	case api.Sum:
		return sum
	case api.Min:
		return extreme(-1, real.Min)
	case api.Max:
		return extreme(1, real.Max)
	case api.Mean:
		return func(l []api.Value) api.Value {
			count := value.Apply(api.OpReal, []api.Value{ofInt(int64(len(l)))})
			return value.Apply(api.OpDiv, []api.Value{sum(l), count})
		}
	default: // Of, First
		return func(l []api.Value) api.Value { return l[0] }
	}
}

func sum(l []api.Value) api.Value {
	total := l[0]
	for _, v := range l[1:] {
		total = value.Apply(api.OpAdd, []api.Value{total, v})
	}
	return total
}

// extreme looks for what stands at that side of all others: of Ints in layer 2's order, of Reals by one of layer 1's ways to pick.
func extreme(side int, pick func(a, b uint64) uint64) func(l []api.Value) api.Value {
	return func(l []api.Value) api.Value {
		best := l[0]
		for _, v := range l {
			switch {
			case v.Kind == api.Int && best.Kind == api.Int:
				if value.Order(v, best) == side {
					best = v
				}
			case v.Kind == api.Real && best.Kind == api.Real:
				best.Bits = pick(best.Bits, v.Bits)
			default:
				return api.Value{}
			}
		}
		return best
	}
}

func ofInt(n int64) api.Value {
	return api.Value{Kind: api.Int, Bits: uint64(n)}
}
