package match_test

import (
	"math"
	"math/rand/v2"
	"slices"
	"testing"

	"auspice/api"
	"auspice/match"
)

// of is a match of the branch 0.
func of(step int, parts ...[]int) api.Match {
	return api.Match{Step: step, Parts: parts}
}

// flat is a match as one list of numbers that stand in the match's order: an end is less than what may stand in its place.
func flat(m api.Match) []int {
	const end, more = 0, 1
	l := []int{m.Step, m.Branch}
	for _, places := range m.Parts {
		l = append(l, more)
		for _, place := range places {
			l = append(l, more, place)
		}
		l = append(l, end)
	}
	return append(l, end)
}

// random is a match of any sort; few are well made.
func random(r *rand.Rand) api.Match {
	pick := func() int { return []int{-1, 0, 1, 2, 3, math.MinInt, math.MaxInt}[r.IntN(7)] }
	m := api.Match{Step: pick(), Branch: pick()}
	for range r.IntN(4) {
		l := []int{}
		for range r.IntN(4) {
			l = append(l, pick())
		}
		m.Parts = append(m.Parts, l)
	}
	return m
}

// near is a match of few numbers, so that others are often its like.
func near(r *rand.Rand) api.Match {
	m := of(r.IntN(2))
	m.Branch = r.IntN(2)
	for range r.IntN(3) {
		l := []int{}
		for range r.IntN(3) {
			l = append(l, r.IntN(2))
		}
		m.Parts = append(m.Parts, l)
	}
	return m
}

// P10.1
func TestOrder(t *testing.T) {
	r := rand.New(rand.NewPCG(10, 1))
	told := map[int]int{}
	for i := range 60000 {
		a, b := near(r), near(r)
		if i%3 == 0 {
			a, b = random(r), random(r)
		}
		wanted := slices.Compare(flat(a), flat(b))
		told[wanted]++
		if got := match.Order(a, b); got != wanted {
			t.Fatalf("%v, %v: %d, wanted %d", a, b, got, wanted)
		}
		if got := match.Same(a, b); got != (wanted == 0) {
			t.Fatalf("%v, %v: the same: %v", a, b, got)
		}
	}
	if told[-1] < 1000 || told[0] < 500 || told[1] < 1000 {
		t.Errorf("told: %v", told)
	}
}

// P10.1: each of these is ahead of the next one.
func TestOrderEdges(t *testing.T) {
	l := []api.Match{
		{Step: math.MinInt, Branch: 9},
		{Step: -1},
		{Branch: math.MinInt, Parts: [][]int{{9}}},
		{Branch: -1},
		{},
		of(0, nil),
		of(0, nil, []int{5}),
		of(0, []int{-1}),
		of(0, []int{0}),
		of(0, []int{0}, nil),
		of(0, []int{0}, []int{0}),
		of(0, []int{0}, []int{0}, []int{0}),
		of(0, []int{0}, []int{0, 1}),
		of(0, []int{0}, []int{1}),
		of(0, []int{0, 1}),
		of(0, []int{0, 1}, []int{0}),
		of(0, []int{1}),
		of(0, []int{9}),
		of(0, []int{10}),
		{Branch: 1},
		{Branch: math.MaxInt},
		{Step: 1},
		of(1, []int{0}),
		{Step: 2, Branch: -5},
		{Step: math.MaxInt},
	}
	for i, a := range l {
		for j, b := range l {
			wanted := slices.Compare([]int{i}, []int{j})
			if got := match.Order(a, b); got != wanted {
				t.Errorf("%v, %v: %d, wanted %d", a, b, got, wanted)
			}
		}
	}
	if !match.Same(api.Match{Parts: [][]int{{}}}, of(0, nil)) || !match.Same(api.Match{Parts: [][]int{}}, api.Match{}) {
		t.Error("empty lists aren't as none")
	}
}

// P10.1: in order, and as often as they were there.
func TestSort(t *testing.T) {
	r := rand.New(rand.NewPCG(10, 2))
	for size := range 60 {
		for range 20 {
			l := []api.Match{}
			for range size {
				l = append(l, near(r))
			}
			got := match.Sort(l)
			if len(got) != size || !slices.IsSortedFunc(got, match.Order) {
				t.Fatalf("%v of %v", got, l)
			}
			for _, m := range l {
				i := slices.IndexFunc(got, func(x api.Match) bool { return slices.Equal(flat(x), flat(m)) })
				if i < 0 {
					t.Fatalf("%v isn't among %v", m, got)
				}
				got = slices.Delete(got, i, i+1)
			}
		}
	}
	if len(match.Sort(nil)) != 0 {
		t.Error("something of none")
	}
}

// The rule on memory: Sort changes nothing, and its answer shares no list.
func TestSortMemory(t *testing.T) {
	shared := []int{4, 5, 6}
	parts := [][]int{shared, shared[:1], {7}}
	whole := []api.Match{of(3, parts[:2]...), of(2, parts[:2]...), of(1, shared), of(0)}
	l := whole[:3]
	got := match.Sort(l)
	wanted := []api.Match{of(1, []int{4, 5, 6}), of(2, []int{4, 5, 6}, []int{4}), of(3, []int{4, 5, 6}, []int{4})}
	if !slices.EqualFunc(got, wanted, match.Same) {
		t.Fatalf("%v", got)
	}
	for i, m := range got {
		for j, places := range m.Parts {
			clear(places[:cap(places)])
			wanted[i].Parts[j] = make([]int, len(places))
			if !slices.EqualFunc(got, wanted, match.Same) {
				t.Fatalf("lists are shared: %v", got)
			}
		}
		clear(m.Parts[:cap(m.Parts)])
		wanted[i].Parts = make([][]int, len(m.Parts))
		if !slices.EqualFunc(got, wanted, match.Same) {
			t.Fatalf("lists are shared: %v", got)
		}
	}
	clear(got[:cap(got)])
	if !slices.Equal(shared, []int{4, 5, 6}) || len(parts[1]) != 1 || parts[2][0] != 7 || whole[0].Step != 3 || whole[1].Step != 2 || whole[2].Step != 1 || whole[3].Step != 0 || len(whole[0].Parts) != 2 {
		t.Error("what was handed in is changed")
	}
}

// good is Good, reckoned in another way than the package does.
func good(m api.Match, n int) bool {
	all := slices.Concat(m.Parts...)
	if len(m.Parts) == 0 || slices.ContainsFunc(m.Parts, func(l []int) bool { return len(l) == 0 }) || !slices.IsSorted(all) || len(slices.Compact(slices.Clone(all))) != len(all) {
		return false
	}
	last := all[len(all)-1]
	return m.Branch >= 0 && all[0] >= 0 && last < n && m.Step >= last && m.Step <= n
}

// P10.2
func TestGoodEdges(t *testing.T) {
	m := of(2, []int{0}, []int{1, 2})
	m.Branch = 7
	for n, wanted := range map[int]bool{math.MinInt: false, -1: false, 0: false, 1: false, 2: false, 3: true, 4: true, math.MaxInt: true} {
		if got := match.Good(m, n); got != wanted {
			t.Errorf("of %d events: %v", n, got)
		}
	}
	for step, wanted := range map[int]bool{math.MinInt: false, 0: false, 1: false, 2: true, 3: true, 4: true, 5: true, 6: false, math.MaxInt: false} {
		m.Step = step
		if got := match.Good(m, 5); got != wanted {
			t.Errorf("at the step %d: %v", step, got)
		}
	}
	if !match.Good(of(0, []int{0}), 1) || match.Good(of(-1, []int{-1}), 1) || match.Good(of(0, []int{-1}), 1) || match.Good(of(0, []int{-1, 0}), 1) {
		t.Error("the first place")
	}
	for _, parts := range [][][]int{nil, {}, {nil}, {{}}, {{0}, nil}, {nil, {0}}, {{0}, {}, {1}}, {{0, 0}}, {{0}, {0}}, {{1, 0}}, {{1}, {0}}, {{0, 1}, {1, 2}}, {{0, 2}, {1, 3}}, {{math.MinInt}}, {{math.MinInt, math.MaxInt}}, {{math.MaxInt}}} {
		if match.Good(of(3, parts...), 9) || match.Good(of(math.MaxInt, parts...), math.MaxInt) {
			t.Errorf("good: %v", parts)
		}
	}
	if match.Good(api.Match{Branch: -1, Parts: [][]int{{0}}}, 1) || match.Good(api.Match{Branch: math.MinInt, Parts: [][]int{{0}}}, 1) || !match.Good(api.Match{Branch: math.MaxInt, Parts: [][]int{{0}}}, 1) {
		t.Error("the branch")
	}
}

// P10.2: every match of few small numbers.
func TestGoodOfAll(t *testing.T) {
	lists, parts := [][]int{{}}, [][][]int{{}}
	for a := -1; a < 4; a++ {
		lists = append(lists, []int{a})
		for b := -1; b < 4; b++ {
			lists = append(lists, []int{a, b})
		}
	}
	for _, a := range lists {
		parts = append(parts, [][]int{a})
		for _, b := range lists {
			parts = append(parts, [][]int{a, b}, [][]int{a, {2}, b})
		}
	}
	told := 0
	for _, l := range parts {
		for branch := -1; branch < 2; branch++ {
			for step := -1; step < 6; step++ {
				for n := -1; n < 6; n++ {
					m := api.Match{Step: step, Branch: branch, Parts: l}
					wanted := good(m, n)
					if got := match.Good(m, n); got != wanted {
						t.Fatalf("%v of %d events: %v", m, n, got)
					}
					if wanted {
						told++
					}
				}
			}
		}
	}
	if told < 100 {
		t.Errorf("%d are good", told)
	}
}
