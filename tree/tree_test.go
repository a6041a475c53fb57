package tree_test

import (
	"math"
	"math/rand/v2"
	"slices"
	"testing"

	"auspice/tree"
)

type node struct {
	name int
	args []node
}

func args(n *node) []node {
	return n.args
}

func named(a, b *node) bool {
	return a.name == b.name
}

// grown is a tree of so many nodes, whose names count up in the order in which Upward tells them.
func grown(r *rand.Rand, size int, next *int) node {
	n := node{}
	for rest := size - 1; rest > 0; {
		part := 1 + r.IntN(rest)
		n.args = append(n.args, grown(r, part, next))
		rest -= part
	}
	n.name = *next
	*next++
	return n
}

func TestTrees(t *testing.T) {
	r := rand.New(rand.NewPCG(1, 1))
	for range 2000 {
		size, next := 1+r.IntN(40), 0
		n := grown(r, size, &next)
		told := 0
		for m := range tree.Upward(&n, args) {
			if m.name != told {
				t.Fatalf("%d is told as %d", m.name, told)
			}
			told++
		}
		if count := tree.Count(&n, args); told != size || count != size {
			t.Fatalf("%d nodes, %d are told, Count is %d", size, told, count)
		}
		for most := -1; most < size+3; most++ {
			if tree.Few(&n, args, most) != (size <= most) {
				t.Fatalf("Few of %d, %d", size, most)
			}
		}
		if !tree.Same(&n, &n, args, named) {
			t.Fatal("not the same as itself")
		}
	}
}

// A range that is left is gone on with no more.
func TestUpwardLeft(t *testing.T) {
	n := node{args: []node{{name: 1}, {name: 2}}}
	told := 0
	for m := range tree.Upward(&n, args) {
		told += m.name
		break
	}
	if told != 1 {
		t.Errorf("%d", told)
	}
}

func TestSharedTrees(t *testing.T) {
	n := node{}
	for range 20 {
		n = node{name: n.name + 1, args: []node{n, n}}
	}
	if count := tree.Count(&n, args); count != 1<<21-1 {
		t.Errorf("%d nodes", count)
	}
	for range 200 {
		n = node{name: n.name + 1, args: []node{n, n}}
	}
	if count := tree.Count(&n, args); count != math.MaxInt32 {
		t.Errorf("%d nodes", count)
	}
	told := 0
	for range tree.Upward(&n, args) {
		told++
	}
	if told != 441 {
		t.Errorf("%d are told", told)
	}
	if tree.Few(&n, args, 100000) || !tree.Same(&n, &n, args, named) {
		t.Error("Few, or Same")
	}
}

func TestRoundTrees(t *testing.T) {
	for width := 1; width < 5; width++ {
		l := make([]node, width)
		for i := range l {
			l[i].args = l
		}
		told := []*node{}
		for m := range tree.Upward(&l[0], args) {
			told = append(told, m)
		}
		if len(told) != width || slices.Contains(told[1:], told[0]) {
			t.Errorf("%d are told of %d", len(told), width)
		}
		other := node{args: slices.Repeat([]node{{args: l}}, width)}
		if tree.Count(&l[0], args) != math.MaxInt32 || tree.Few(&l[0], args, 1000) || !tree.Same(&l[0], &other, args, named) {
			t.Errorf("Count, Few or Same of a circle of %d", width)
		}
		other.args[width-1].args = nil
		if tree.Same(&l[0], &other, args, named) {
			t.Errorf("a circle of %d is the same as what ends", width)
		}
	}
}
