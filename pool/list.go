package pool

import (
	"container/heap"
	"sort"
)

// list keeps things by numbers, each as long as it is held.
type list[T any] struct {
	all  []counted[T]
	free numbers // of all those where nothing stands
}

// counted is a thing, and how many times it is held; never, where nothing stands.
type counted[T any] struct {
	thing T
	holds int
}

func (l *list[T]) count() int {
	return len(l.all) - l.free.Len()
}

// find is nil, where nothing stands. What it answers is good until something is added.
func (l *list[T]) find(at int) *counted[T] {
	if at < 0 || at >= len(l.all) || l.all[at].holds == 0 {
		return nil
	}
	return &l.all[at]
}

// add puts a thing, held once, at the lowest number where nothing stands.
func (l *list[T]) add(thing T) int {
	at := len(l.all)
	if l.free.Len() > 0 {
		at = heap.Pop(&l.free).(int)
	} else {
		l.all = append(l.all, counted[T]{})
	}
	l.all[at] = counted[T]{thing, 1}
	return at
}

// release takes away a hold of a thing that is there. It answers the thing, and true, if that was the last one: then nothing stands there any more.
func (l *list[T]) release(at int) (T, bool) {
	x := &l.all[at]
	x.holds--
	gone := x.thing
	if x.holds > 0 {
		return gone, false
	}
	*x = counted[T]{}
	heap.Push(&l.free, at)
	return gone, true
}

// numbers are a heap: the lowest one comes first.
type numbers struct {
	sort.IntSlice
}

func (n *numbers) Push(x any) {
	n.IntSlice = append(n.IntSlice, x.(int))
}

func (n *numbers) Pop() any {
	last := len(n.IntSlice) - 1
	x := n.IntSlice[last]
	n.IntSlice = n.IntSlice[:last]
	return x
}
