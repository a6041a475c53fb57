// Package nodes takes conditions for trees of any shape, by package tree. It is no layer: layers whose calls take nodes, or answer them, are built on it.
package nodes

import (
	"slices"

	"auspice/api"
	"auspice/tree"
)

// mostApart is how many nodes a copy may have for all its lists to stand apart. One of more nodes would be greater than the document lets an answer be.
const mostApart = 1 << 25

func Args(n *api.Node) []api.Node {
	return n.Args
}

// IsLeaf tells whether a node of that Op is what it is without Args.
func IsLeaf(op int) bool {
	switch op {
	case api.Const, api.Cur, api.Of, api.Count, api.First, api.Last, api.Sum, api.Min, api.Max, api.Mean:
		return true
	}
	return false
}

// Same tells whether two nodes are the same in all that they have.
func Same(a, b api.Node) bool {
	return tree.Same(&a, &b, Args, alike)
}

// AllSame tells whether two lists are the same, node by node.
func AllSame(x, y []api.Node) bool {
	return slices.EqualFunc(x, y, Same)
}

// alike tells whether two nodes are the same, Args aside.
func alike(a, b *api.Node) bool {
	return a.Op == b.Op && a.Kind == b.Kind && a.Value == b.Value && a.Pos == b.Pos && a.Attr == b.Attr
}

// Copies are copies of all of a list.
func Copies(l []api.Node) []api.Node {
	made := make([]api.Node, len(l))
	for i := range l {
		made[i] = Copied(l[i])
	}
	return made
}

// Kept are copies of all of a list for what outlives the call that it was handed to. Lists of them that were one stay one, so that no tree grows.
func Kept(l []api.Node) []api.Node {
	made := make([]api.Node, len(l))
	for i := range l {
		made[i] = copiedOnce(l[i])
	}
	return made
}

// Copied is a copy of a node with lists of its own, no two of them one.
func Copied(n api.Node) api.Node {
	if tree.Count(&n, Args) > mostApart {
		return copiedOnce(n)
	}
	own := []api.Node{n}
	open := [][]api.Node{own}
	for len(open) > 0 {
		l := open[len(open)-1]
		open = open[:len(open)-1]
		for i := range l {
			l[i].Args = append([]api.Node(nil), l[i].Args...)
			if len(l[i].Args) > 0 {
				open = append(open, l[i].Args)
			}
		}
	}
	return own[0]
}

// copiedOnce copies each node once, wherever it stands, so that a tree that shares its lists stays small. A node that is within itself is the zero one there.
func copiedOnce(n api.Node) api.Node {
	known := map[*api.Node]api.Node{}
	for m := range tree.Upward(&n, Args) {
		own := *m
		own.Args = make([]api.Node, len(m.Args))
		for i := range m.Args {
			own.Args[i] = known[&m.Args[i]]
		}
		known[m] = own
	}
	return known[&n]
}
