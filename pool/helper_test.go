package pool_test

import (
	"fmt"
	"math"
	"testing"

	"auspice/pool"
)

// event is a cell by the chapter's words.
type event struct {
	prev, event int
	fresh       bool
	own         int
}

// plain is a pool by the chapter's words, without any means of finding things soon.
type plain struct {
	most  int
	cells map[int]event
}

func (p plain) held(cell int) int {
	count := p.cells[cell].own
	for _, c := range p.cells {
		if _, ok := p.cells[cell]; ok && c.prev == cell {
			count++
		}
	}
	return count
}

func (p plain) add(prev, of int, fresh bool) (int, bool) {
	if _, ok := p.cells[prev]; !ok && prev != -1 || of < 0 {
		return -1, false
	}
	for number, c := range p.cells {
		if c.prev == prev && c.event == of && (c.fresh == fresh || prev == -1) {
			c.own++
			p.cells[number] = c
			return number, true
		}
	}
	if len(p.cells) >= p.most {
		return -1, false
	}
	number := 0
	for p.held(number) > 0 {
		number++
	}
	p.cells[number] = event{prev, of, fresh || prev == -1, 1}
	return number, true
}

func (p plain) hold(cell int) bool {
	c, ok := p.cells[cell]
	if ok {
		c.own++
		p.cells[cell] = c
	}
	return ok
}

func (p plain) drop(cell int) bool {
	c, ok := p.cells[cell]
	if !ok || c.own == 0 {
		return false
	}
	c.own--
	p.cells[cell] = c
	for ok && p.held(cell) == 0 {
		delete(p.cells, cell)
		cell = c.prev
		c, ok = p.cells[cell]
	}
	return true
}

func (p plain) path(cell int) [][]int {
	c, ok := p.cells[cell]
	if !ok {
		return nil
	}
	l := p.path(c.prev)
	if c.fresh {
		l = append(l, nil)
	}
	l[len(l)-1] = append(l[len(l)-1], c.event)
	return l
}

// both are a pool, and what it must be.
type both struct {
	*testing.T
	got    *pool.Pool
	wanted plain
}

func pools(t *testing.T, most int) both {
	return both{t, pool.New(most), plain{most, map[int]event{}}}
}

func (b both) add(prev, event int, fresh bool) (int, bool) {
	b.Helper()
	number, ok := b.got.Add(prev, event, fresh)
	if wanted, wantedOk := b.wanted.add(prev, event, fresh); number != wanted || ok != wantedOk {
		b.Fatalf("Add(%d, %d, %v): %d, %v, wanted %d, %v", prev, event, fresh, number, ok, wanted, wantedOk)
	}
	return number, ok
}

func (b both) hold(cell int) bool {
	b.Helper()
	ok := b.got.Hold(cell)
	if wanted := b.wanted.hold(cell); ok != wanted {
		b.Fatalf("Hold(%d): %v, wanted %v", cell, ok, wanted)
	}
	return ok
}

func (b both) drop(cell int) bool {
	b.Helper()
	ok := b.got.Drop(cell)
	if wanted := b.wanted.drop(cell); ok != wanted {
		b.Fatalf("Drop(%d): %v, wanted %v", cell, ok, wanted)
	}
	return ok
}

// look holds all that can be asked against what it must be.
func (b both) look() {
	b.Helper()
	if b.got.Used() != len(b.wanted.cells) {
		b.Fatalf("%d are used, wanted %d", b.got.Used(), len(b.wanted.cells))
	}
	for _, cell := range []int{math.MinInt, -2, -1, len(b.wanted.cells) + 20, math.MaxInt} {
		if b.got.Held(cell) != 0 || len(b.got.Path(cell)) != 0 {
			b.Fatalf("%d: held %d times, %v", cell, b.got.Held(cell), b.got.Path(cell))
		}
	}
	for cell := range len(b.wanted.cells) + 20 {
		if held, wanted := b.got.Held(cell), b.wanted.held(cell); held != wanted {
			b.Fatalf("%d is held %d times, wanted %d", cell, held, wanted)
		}
		if path, wanted := fmt.Sprint(b.got.Path(cell)), fmt.Sprint(b.wanted.path(cell)); path != wanted {
			b.Fatalf("%d: %s, wanted %s", cell, path, wanted)
		}
	}
}
