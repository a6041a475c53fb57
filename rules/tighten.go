package rules

import (
	"math"

	"auspice/api"
)

// timeAttr is where a leaf has the time of its event.
const timeAttr = -1

func (w *work) tighten() {
	kept := []api.Branch{}
	for _, b := range w.plan.Branches {
		if b, ok := tightened(b); ok {
			kept = append(kept, b)
		}
	}
	w.plan.Branches = kept
}

// tightened is a branch whose window says what guards of its last part said. It is false, where that part is never so near.
func tightened(b api.Branch) (api.Branch, bool) {
	last := len(b.Parts) - 1
	if len(positions(b.Parts)) < 2 || b.Parts[last].Form == api.Not {
		return b, true
	}
	stay := []api.Node{}
	for _, n := range b.Parts[last].Guards {
		span, ok := spanOf(n, b.Parts[0].Form)
		switch {
		case !ok:
			stay = append(stay, n)
		case span < 0:
			return api.Branch{}, false
		default:
			b.Window = min(b.Window, span)
		}
	}
	b.Parts[last].Guards = stay
	return b, true
}

// spanOf is how far behind the first event, which is of a part of that form, the one that is asked is at most, if the guard says that.
func spanOf(guard api.Node, form int) (int64, bool) {
	if guard.Op != api.OpLe && guard.Op != api.OpLt || len(guard.Args) != 2 {
		return 0, false
	}
	behind, most := guard.Args[0], guard.Args[1]
	if !isBehind(behind, form) || most.Op != api.Const || most.Value.Kind != api.Int {
		return 0, false
	}
	span := int64(most.Value.Bits)
	if guard.Op == api.OpLt && span > math.MinInt64 {
		span--
	}
	return span, true
}

// isBehind tells whether a node is the time of the event that is asked less that of the first one.
func isBehind(n api.Node, form int) bool {
	if n.Op != api.OpSub || len(n.Args) != 2 {
		return false
	}
	asked, first := n.Args[0], n.Args[1]
	return asked.Op == api.Cur && asked.Attr == timeAttr && isFirst(first, form) && first.Pos == 0 && first.Attr == timeAttr
}

func isFirst(n api.Node, form int) bool {
	return n.Op == api.Of && form == api.One || n.Op == api.First && form == api.Many
}
