// Package tree goes through trees that may be made by hand: deeper than the stack, with one list of operands at many places, or round in a circle. It is no layer: layers whose calls take trees of any sort are built on it.
package tree

import "iter"

// mostNodes is the document's bound of what a program is given: further on no count is promised.
const mostNodes = 1<<31 - 1

// step is a node that is gone through, and the place of the first of its operands that isn't yet.
type step[N any] struct {
	n    *N
	next int
}

// Upward yields each node of a tree once, behind its operands, these from left to right, args being a node's operands. It doesn't call itself, and looks which nodes it has met: so it ends with trees of any shape. In a circle one node is ahead of one of its operands.
func Upward[N any](n *N, args func(n *N) []N) iter.Seq[*N] {
	return func(yield func(*N) bool) {
		met := map[*N]struct{}{n: {}}
		open := []step[N]{{n, 0}}
		for len(open) > 0 {
			top := &open[len(open)-1]
			if l := args(top.n); top.next < len(l) {
				below := &l[top.next]
				top.next++
				if _, ok := met[below]; !ok {
					met[below] = struct{}{}
					open = append(open, step[N]{below, 0})
				}
				continue
			}
			whole := top.n
			open = open[:len(open)-1]
			if !yield(whole) {
				return
			}
		}
	}
}

// Count is how many nodes a tree has, at most mostNodes; so many too, where a node is within itself.
func Count[N any](n *N, args func(n *N) []N) int {
	counts := map[*N]int{}
	for m := range Upward(n, args) {
		count, l := 1, args(m)
		for i := range l {
			below, ok := counts[&l[i]]
			if !ok {
				return mostNodes
			}
			count = min(count+below, mostNodes)
		}
		counts[m] = count
	}
	return counts[n]
}

// Few tells whether a tree has at most that many nodes. It looks at few more than these, and goes no deeper.
func Few[N any](n *N, args func(n *N) []N, most int) bool {
	return rest(n, args, most) >= 0
}

// rest is how many nodes of so many are left beside a tree's; below 0, where it has more.
func rest[N any](n *N, args func(n *N) []N, most int) int {
	most--
	l := args(n)
	for i := range l {
		if most < 0 {
			break
		}
		most = rest(&l[i], args, most)
	}
	return most
}

// pair is two nodes that stand at one place of two trees.
type pair[N any] struct {
	a, b *N
}

// Same tells whether two trees are alike node by node, args being a node's operands, and alike asking all else of two nodes.
func Same[N any](a, b *N, args func(n *N) []N, alike func(a, b *N) bool) bool {
	met := map[pair[N]]struct{}{{a, b}: {}}
	open := []pair[N]{{a, b}}
	for len(open) > 0 {
		p := open[len(open)-1]
		open = open[:len(open)-1]
		l, m := args(p.a), args(p.b)
		if len(l) != len(m) || !alike(p.a, p.b) {
			return false
		}
		for i := range l {
			below := pair[N]{&l[i], &m[i]}
			if _, ok := met[below]; !ok {
				met[below] = struct{}{}
				open = append(open, below)
			}
		}
	}
	return true
}
