package expr

import (
	"iter"

	"auspice/api"
	"auspice/tree"
)

// mostNodes is the document's bound of what a program is given: further on no count is promised.
const mostNodes = 1<<31 - 1

// How far nodes is with a node.
const (
	fresh = iota
	begun
	told
)

// nodes yields each node of a tree once, behind its Args. A tree made by hand may be deeper than the stack, hold one list of Args at many places, and go round in a circle: so this doesn't call itself, and looks which nodes it has met.
func nodes(e *api.Expr) iter.Seq[*api.Expr] {
	return func(yield func(*api.Expr) bool) {
		far := map[*api.Expr]int{}
		open := []*api.Expr{e}
		for len(open) > 0 {
			n := open[len(open)-1]
			if far[n] == fresh {
				far[n] = begun
				for i := range n.Args {
					if far[&n.Args[i]] == fresh {
						open = append(open, &n.Args[i])
					}
				}
				continue
			}
			open = open[:len(open)-1]
			if far[n] == begun {
				far[n] = told
				if !yield(n) {
					return
				}
			}
		}
	}
}

func Nodes(e api.Expr) int {
	counts := map[*api.Expr]int{}
	for n := range nodes(&e) {
		count := 1
		for i := range n.Args {
			below, ok := counts[&n.Args[i]]
			if !ok { // a node that is within itself
				return mostNodes
			}
			count = min(count+below, mostNodes)
		}
		counts[n] = count
	}
	return counts[&e]
}

func Same(a, b api.Expr) bool {
	return tree.Same(&a, &b, func(n *api.Expr) []api.Expr { return n.Args }, alike)
}

// alike tells whether two nodes are the same, At and Args aside.
func alike(a, b *api.Expr) bool {
	return a.Op == b.Op && a.N == b.N && a.Scale == b.Scale && a.Name == b.Name && a.Attr == b.Attr
}
