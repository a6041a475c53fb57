package states_test

import (
	"fmt"
	"math"
	"math/rand/v2"
	"slices"
	"testing"

	"auspice/api"
	"auspice/nodes"
	"auspice/sample"
	"auspice/states"
)

// told is a condition that is told apart from others by its number.
func told(n int64) []api.Node {
	return []api.Node{{Op: api.Const, Kind: api.Int, Value: sample.Int(n)}}
}

func TestSameBars(t *testing.T) {
	some := func() []api.Bar {
		return []api.Bar{{Type: 1, Guards: told(1)}, {Type: 2, Guards: append(told(2), told(3)...)}}
	}
	if !states.SameBars(some(), some()) || !states.SameBars(nil, []api.Bar{}) || !states.SameBars([]api.Bar{{}}, []api.Bar{{Guards: []api.Node{}}}) {
		t.Error("not the same")
	}
	for i, change := range []func(l *[]api.Bar){
		func(l *[]api.Bar) { *l = nil },
		func(l *[]api.Bar) { *l = (*l)[1:] },
		func(l *[]api.Bar) { *l = append(*l, api.Bar{}) },
		func(l *[]api.Bar) { (*l)[0], (*l)[1] = (*l)[1], (*l)[0] },
		func(l *[]api.Bar) { (*l)[1].Type-- },
		func(l *[]api.Bar) { (*l)[0].Guards = nil },
		func(l *[]api.Bar) { (*l)[1].Guards = (*l)[1].Guards[:1] },
		func(l *[]api.Bar) { (*l)[1].Guards[1].Value.Bits++ },
	} {
		l := some()
		change(&l)
		if states.SameBars(l, some()) || states.SameBars(some(), l) {
			t.Errorf("the same behind the change %d", i)
		}
	}
}

// Copies have all that is in a list, and no memory of it.
func TestCopies(t *testing.T) {
	o := sample.Odd{Pick: rand.New(rand.NewPCG(16, 11)).IntN}
	for range 3000 {
		a := api.Auto{States: o.Auto().States}
		for _, copied := range []func(l []api.Node) []api.Node{nodes.Copies, nodes.Kept} {
			b := api.Auto{States: states.Copies(a.States, copied)}
			if fmt.Sprintf("%+v", a) != fmt.Sprintf("%+v", b) {
				t.Fatalf("%+v of %+v", b, a)
			}
			if !sample.Apart(sample.AutoConditions(a, b), nil) || !sample.Once(sample.AutoRooms(a), sample.AutoRooms(b)) {
				t.Fatalf("copies of %+v share memory", a)
			}
		}
	}
	if len(states.Copies(nil, nodes.Copies)) != 0 {
		t.Error("copies of none")
	}
}

// It is the caller who says how conditions are copied.
func TestCopiedBy(t *testing.T) {
	s := api.State{Leaves: told(1), Guards: told(2), Bars: []api.Bar{{Guards: told(3)}}, Ends: []api.End{{Closes: told(4), Bars: []api.Bar{{Guards: told(5)}}}}}
	met := map[uint64]int{}
	states.Copies([]api.State{s, s}, func(l []api.Node) []api.Node {
		met[l[0].Value.Bits]++
		return nil
	})
	for n := uint64(1); n <= 5; n++ {
		if met[n] != 2 {
			t.Errorf("%d is copied %d times", n, met[n])
		}
	}
}

// A path begins where a parent isn't ahead, or isn't there.
func TestPath(t *testing.T) {
	for _, c := range []struct{ parents, path []int }{
		{nil, nil},
		{[]int{-1}, []int{0}},
		{[]int{-1, 0, 1, 2}, []int{0, 1, 2, 3}},
		{[]int{-1, 0, 0, -1, 1}, []int{0, 1, 4}},
		{[]int{-1, 0, 0, -1, 3, 3}, []int{3, 5}},
		{[]int{-1, 0, 2}, []int{2}},
		{[]int{-1, 1, 1}, []int{1, 2}},
		{[]int{math.MaxInt, 3, math.MinInt, 1}, []int{1, 3}},
		{[]int{0, math.MaxInt, math.MinInt}, []int{2}},
	} {
		same := func(parent int) int { return parent }
		if got := states.Path(c.parents, len(c.parents)-1, same); !slices.Equal(got, c.path) {
			t.Errorf("%v: %v, wanted %v", c.parents, got, c.path)
		}
		for _, i := range []int{math.MinInt, -1, len(c.parents), math.MaxInt} {
			if got := states.Path(c.parents, i, same); len(got) > 0 {
				t.Errorf("%v: %v to %d", c.parents, got, i)
			}
		}
	}
}
