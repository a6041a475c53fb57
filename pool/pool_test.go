package pool_test

import (
	"fmt"
	"math"
	"math/rand/v2"
	"slices"
	"testing"

	"auspice/pool"
)

// wantAdd adds what must be that number; -1: it can't be added.
func wantAdd(t *testing.T, p *pool.Pool, prev, event int, fresh bool, wanted int) {
	t.Helper()
	if number, ok := p.Add(prev, event, fresh); number != wanted || ok != (wanted >= 0) {
		t.Errorf("Add(%d, %d, %v): %d, %v, wanted %d", prev, event, fresh, number, ok, wanted)
	}
}

// wantHeld: how many times the cells from 0 on are held, and that there are no others.
func wantHeld(t *testing.T, p *pool.Pool, wanted ...int) {
	t.Helper()
	got, used := []int{}, 0
	for cell, times := range append(slices.Clone(wanted), 0, 0, 0) {
		got = append(got, p.Held(cell))
		used += min(1, times)
	}
	if !slices.Equal(got, append(wanted, 0, 0, 0)) || p.Used() != used {
		t.Errorf("held %v, wanted %v; %d are used", got, wanted, p.Used())
	}
}

func wantPath(t *testing.T, p *pool.Pool, cell int, wanted string) {
	t.Helper()
	if got := fmt.Sprint(p.Path(cell)); got != wanted {
		t.Errorf("Path(%d): %s, wanted %s", cell, got, wanted)
	}
}

// P23.1 to P23.3: the chapter's example.
func TestExample(t *testing.T) {
	p := pool.New(3)
	wantAdd(t, p, -1, 5, true, 0)
	wantAdd(t, p, 0, 7, false, 1)
	wantAdd(t, p, 0, 7, false, 1)
	wantHeld(t, p, 2, 2)
	wantPath(t, p, 1, "[[5 7]]")
	wantAdd(t, p, 0, 7, true, 2)
	wantPath(t, p, 2, "[[5] [7]]")
	wantAdd(t, p, -1, 9, true, -1)
	wantHeld(t, p, 3, 2, 1)
	if !p.Drop(1) || p.Used() != 3 || !p.Drop(1) || p.Used() != 2 || p.Drop(1) {
		t.Errorf("%d are used", p.Used())
	}
	wantHeld(t, p, 2, 0, 1)
	wantPath(t, p, 1, "[]")
}

// P23.1: what is the same cell, and what isn't.
func TestAdd(t *testing.T) {
	p := pool.New(100)
	wantAdd(t, p, -1, 5, false, 0) // fresh, being behind none
	wantAdd(t, p, -1, 5, true, 0)
	wantAdd(t, p, -1, 6, true, 1)
	wantAdd(t, p, -1, 6, false, 1)
	wantAdd(t, p, 0, 5, false, 2)
	wantAdd(t, p, 0, 5, true, 3)
	wantAdd(t, p, 1, 5, false, 4)
	wantAdd(t, p, 1, 5, true, 5)
	wantAdd(t, p, 0, 6, false, 6)
	wantAdd(t, p, 2, 5, false, 7)
	wantAdd(t, p, 0, 5, true, 3)
	wantAdd(t, p, 3, 0, false, 8)
	wantAdd(t, p, 3, math.MaxInt, false, 9)
	wantHeld(t, p, 5, 4, 2, 4, 1, 1, 1, 1, 1, 1)
	wantPath(t, p, 7, "[[5 5 5]]")
	wantPath(t, p, 8, "[[5] [5 0]]")
	wantPath(t, p, 9, "[[5] [5 9223372036854775807]]")
	for _, prev := range []int{math.MinInt, -2, 10, 11, 100, math.MaxInt} {
		wantAdd(t, p, prev, 5, true, -1)
		wantAdd(t, p, prev, 5, false, -1)
	}
	for _, event := range []int{math.MinInt, -2, -1} {
		wantAdd(t, p, -1, event, true, -1)
		wantAdd(t, p, 3, event, false, -1)
	}
	wantHeld(t, p, 5, 4, 2, 4, 1, 1, 1, 1, 1, 1)
}

// P23.1: at most so many cells; one that is there is held once more still.
func TestMost(t *testing.T) {
	for _, most := range []int{math.MinInt, -1, 0} {
		p := pool.New(most)
		for range 2 {
			wantAdd(t, p, -1, 0, true, -1)
			wantAdd(t, p, 0, 0, true, -1)
			wantHeld(t, p)
		}
	}
	for most := 1; most < 5; most++ {
		p := pool.New(most)
		for event := range most {
			wantAdd(t, p, event-1, event, false, event)
		}
		for range 2 {
			wantAdd(t, p, -1, most, true, -1)
			wantAdd(t, p, most-1, most, false, -1)
			wantAdd(t, p, most-2, most-1, false, most-1)
		}
		wantHeld(t, p, append(slices.Repeat([]int{2}, most-1), 3)...)
		for range 3 {
			p.Drop(most - 1)
		}
		wantAdd(t, p, -1, most, true, most-1)
		wantAdd(t, p, -1, most+1, true, -1)
	}
	wantAdd(t, pool.New(math.MaxInt), -1, 0, true, 0)
}

// P23.1: a new one has the lowest number that no cell has.
func TestLowest(t *testing.T) {
	r := rand.New(rand.NewPCG(23, 1))
	p, event := pool.New(1000), 0
	for range 1000 {
		wantAdd(t, p, -1, event, true, event)
		event++
	}
	for range 20 {
		free := r.Perm(1000)[:1+r.IntN(1000)]
		for _, cell := range free {
			p.Drop(cell)
		}
		slices.Sort(free)
		for _, cell := range free {
			wantAdd(t, p, -1, event, true, cell)
			event++
		}
		wantAdd(t, p, -1, event, true, -1)
	}
}

// P23.2: own holds, and those of the cells behind.
func TestHolds(t *testing.T) {
	p := pool.New(9)
	wantAdd(t, p, -1, 1, true, 0)
	wantAdd(t, p, 0, 2, true, 1)
	wantAdd(t, p, 0, 3, true, 2)
	wantAdd(t, p, 1, 4, false, 3)
	if !p.Hold(1) || !p.Hold(1) {
		t.Error("not held")
	}
	wantHeld(t, p, 3, 4, 1, 1)
	for cell, times := range []int{1, 3} {
		for range times {
			if !p.Drop(cell) {
				t.Errorf("%d isn't dropped", cell)
			}
		}
		for range 2 {
			if p.Drop(cell) {
				t.Errorf("%d is dropped without an own hold", cell)
			}
		}
	}
	wantHeld(t, p, 2, 1, 1, 1)
	wantPath(t, p, 3, "[[1] [2 4]]")
	if !p.Hold(1) || !p.Drop(1) || p.Drop(1) { // held again, though nothing but a cell held it
		t.Error("not held again")
	}
	wantHeld(t, p, 2, 1, 1, 1)
	if !p.Drop(3) || p.Drop(3) || p.Hold(3) || p.Hold(1) {
		t.Error("it isn't gone")
	}
	wantHeld(t, p, 1, 0, 1)
	wantAdd(t, p, 1, 5, true, -1)
	wantAdd(t, p, 0, 2, true, 1) // what it was once doesn't matter
	wantHeld(t, p, 2, 1, 1)
	for _, cell := range []int{math.MinInt, -1, 3, 4, 9, math.MaxInt} {
		if p.Hold(cell) || p.Drop(cell) {
			t.Errorf("%d is there", cell)
		}
	}
	if !p.Drop(1) || !p.Drop(2) {
		t.Error("not dropped")
	}
	wantHeld(t, p)
	wantAdd(t, p, -1, 1, true, 0)
}

// P23.3: lists, as each fresh one begins another.
func TestPath(t *testing.T) {
	p := pool.New(100)
	at, wanted := -1, [][]int{}
	for event, fresh := range []bool{true, false, false, true, true, false, true} {
		at, _ = p.Add(at, event*event, fresh)
		if fresh {
			wanted = append(wanted, nil)
		}
		wanted[len(wanted)-1] = append(wanted[len(wanted)-1], event*event)
		wantPath(t, p, at, fmt.Sprint(wanted))
	}
	wantPath(t, p, 0, "[[0]]")
	for _, cell := range []int{math.MinInt, -1, 7, 8, math.MaxInt} {
		wantPath(t, p, cell, "[]")
	}
}

// P23.1 to P23.3: calls of all sorts, one behind the other, against the chapter's words.
func TestRandom(t *testing.T) {
	r := rand.New(rand.NewPCG(23, 2))
	met := map[string]int{}
	count := func(call string, ok bool) { met[fmt.Sprintf("%s %v", call, ok)]++ }
	for range 600 {
		b := pools(t, r.IntN(14)-1)
		number, few := func() int { return r.IntN(15) - 2 }, 1+r.IntN(4)
		for range 100 {
			switch r.IntN(5) {
			case 0:
				_, ok := b.add(number(), r.IntN(few+1)-r.IntN(2)*r.IntN(2), r.IntN(2) == 0)
				count("add", ok)
			case 1, 2:
				_, ok := b.add(max(-1, len(b.wanted.cells)-1-r.IntN(3)), r.IntN(few), r.IntN(2) == 0)
				count("add", ok)
			case 3:
				count("drop", b.drop(number()))
				count("drop", b.drop(number()))
			case 4:
				count("hold", b.hold(number()))
			}
			b.look()
		}
	}
	for _, call := range []string{"add true", "add false", "drop true", "drop false", "hold true", "hold false"} {
		if met[call] < 2000 {
			t.Errorf("%v", met)
		}
	}
}

// P23.2: a long row that is gone at once, and is there again.
func TestLong(t *testing.T) {
	const long = 300000
	p := pool.New(math.MaxInt)
	for range 2 {
		for event := range long {
			wantAdd(t, p, event-1, event, event%1000 == 0, event)
			if event > 0 && !p.Drop(event-1) {
				t.Fatalf("%d isn't dropped", event-1)
			}
		}
		if p.Used() != long || p.Held(0) != 1 || p.Held(long-1) != 1 {
			t.Errorf("%d are used, held %d and %d times", p.Used(), p.Held(0), p.Held(long-1))
		}
		path := p.Path(long - 1)
		if len(path) != long/1000 || slices.ContainsFunc(path, func(l []int) bool { return len(l) != 1000 || l[999] != l[0]+999 }) {
			t.Errorf("a path of %d lists", len(path))
		}
		if !p.Drop(long-1) || p.Used() != 0 || p.Held(0) != 0 {
			t.Errorf("%d are used", p.Used())
		}
	}
}

// P23.3, rule on nil: of a nil pool nothing; a pool that New didn't make has no cells, and room for none.
func TestNil(t *testing.T) {
	for _, p := range []*pool.Pool{nil, {}} {
		for range 2 {
			wantAdd(t, p, -1, 0, true, -1)
			wantAdd(t, p, 0, 0, false, -1)
			wantHeld(t, p)
			for _, cell := range []int{math.MinInt, -1, 0, 1, math.MaxInt} {
				if p.Hold(cell) || p.Drop(cell) || p.Used() != 0 {
					t.Errorf("%d is there", cell)
				}
				wantPath(t, p, cell, "[]")
			}
		}
	}
}

// Rules, memory: paths share none, neither with the pool nor with each other; pools hang on nothing but their own calls.
func TestMemory(t *testing.T) {
	p, other := pool.New(10), pool.New(10)
	for event := range 6 {
		wantAdd(t, p, event-1, event, event%2 == 0, event)
	}
	wantHeld(t, other)
	wantAdd(t, other, 0, 1, false, -1)
	one, again := p.Path(5), p.Path(5)
	for i, l := range one {
		l = l[:cap(l)]
		for j := range l {
			l[j] = 99
		}
		if i > 0 {
			one[i-1] = append(one[i-1][:2], 77, 77, 77)
		}
	}
	if got := fmt.Sprint(again, p.Path(5), p.Path(3)); got != "[[0 1] [2 3] [4 5]] [[0 1] [2 3] [4 5]] [[0 1] [2 3]]" {
		t.Errorf("%s", got)
	}
	if got := fmt.Sprint(one[2]); got != "[99 99]" {
		t.Errorf("%s", got)
	}
}
