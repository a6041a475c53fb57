// Package states takes states of automata for what they are made of: copied, and held against each other, conditions by package nodes; and for what leads to them. It is no layer: layers whose calls take automata, or tables of them, are built on it.
package states

import (
	"slices"

	"auspice/api"
	"auspice/nodes"
)

// SameBars tells whether two lists of Bars are the same in all that they have.
func SameBars(x, y []api.Bar) bool {
	return slices.EqualFunc(x, y, func(a, b api.Bar) bool {
		return a.Type == b.Type && nodes.AllSame(a.Guards, b.Guards)
	})
}

// Copies are copies of all of a list with lists of their own, copied being what copies conditions: Copies or Kept of package nodes.
func Copies(l []api.State, copied func(l []api.Node) []api.Node) []api.State {
	l = slices.Clone(l)
	for i := range l {
		s := &l[i]
		s.Bars, s.Leaves, s.Guards = copiedBars(s.Bars, copied), copied(s.Leaves), copied(s.Guards)
		s.Ends = slices.Clone(s.Ends)
		for j := range s.Ends {
			end := &s.Ends[j]
			end.Closes, end.Bars = copied(end.Closes), copiedBars(end.Bars, copied)
		}
	}
	return l
}

func copiedBars(l []api.Bar, copied func(l []api.Node) []api.Node) []api.Bar {
	l = slices.Clone(l)
	for i := range l {
		l[i].Guards = copied(l[i].Guards)
	}
	return l
}

// Path is the places of the states from a first one to the one at i, each the parent of the next. It begins at the first one, from i backwards, whose parent doesn't stand ahead of it; it is empty, where there is no state at i.
func Path[T any](l []T, i int, parent func(s T) int) []int {
	if i < 0 || i >= len(l) {
		return nil
	}
	path := []int{i}
	for at := parent(l[i]); at >= 0 && at < i; at = parent(l[i]) {
		i = at
		path = append(path, i)
	}
	slices.Reverse(path)
	return path
}
