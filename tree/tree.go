// Package tree goes through trees that may be made by hand: deeper than the stack, with one list of operands at many places, or round in a circle. It is no layer: layers whose calls take trees of any sort are built on it.
package tree

// pair is two nodes that stand at one place of two trees.
type pair[N any] struct {
	a, b *N
}

// Same tells whether two trees are alike node by node, args being a node's operands, and alike asking all else of two nodes.
func Same[N any](a, b *N, args func(n *N) []N, alike func(a, b *N) bool) bool {
	met := map[pair[N]]struct{}{}
	open := []pair[N]{{a, b}}
	for len(open) > 0 {
		p := open[len(open)-1]
		open = open[:len(open)-1]
		if _, ok := met[p]; ok {
			continue
		}
		met[p] = struct{}{}
		l, m := args(p.a), args(p.b)
		if len(l) != len(m) || !alike(p.a, p.b) {
			return false
		}
		for i := range l {
			open = append(open, pair[N]{&l[i], &m[i]})
		}
	}
	return true
}
