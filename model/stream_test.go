package model_test

import (
	"math"
	"slices"
	"testing"

	"auspice/api"
	"auspice/model"
	"auspice/sample"
)

// of is an event with these attributes.
func of(kind int, attrs ...api.Value) api.Event {
	return api.Event{Type: kind, Attrs: attrs}
}

func wantStream(t *testing.T, keys []int, l []api.Event, at int, wanted ...int) {
	t.Helper()
	if got := model.Stream(keys, l, at); !slices.Equal(got, wanted) {
		t.Errorf("Stream(%v, %v, %d): %v, wanted %v", keys, l, at, got, wanted)
	}
}

// P11.1: without keys all events are in one stream, whatever they are.
func TestStreamWithoutKeys(t *testing.T) {
	l := []api.Event{of(0, sample.Int(1)), of(7), of(-1, sample.Sym(3)), {Time: 9}}
	for at := range l {
		wantStream(t, nil, l, at, 0, 1, 2, 3)
		wantStream(t, []int{}, l, at, 0, 1, 2, 3)
	}
	for _, at := range []int{-1, 4, math.MinInt, math.MaxInt} {
		wantStream(t, nil, l, at)
		wantStream(t, nil, nil, at)
	}
}

// P11.1: the key is another attribute from type to type.
func TestStreamByKey(t *testing.T) {
	l := []api.Event{
		of(0, sample.Int(5), sample.Int(1)),
		of(1, sample.Int(1), sample.Int(5)),
		of(0, sample.Int(1), sample.Int(5)),
		of(2, sample.Int(5)),
		of(1, sample.Int(5), sample.Int(5)),
		of(0, sample.Int(5)),
	}
	keys := []int{0, 1, -1}
	for _, at := range []int{0, 1, 4, 5} {
		wantStream(t, keys, l, at, 0, 1, 4, 5)
	}
	wantStream(t, keys, l, 2, 2)
	wantStream(t, keys, l, 3)
	for _, at := range []int{-1, 6, math.MinInt, math.MaxInt} {
		wantStream(t, keys, l, at)
	}
}

// P11.1: events that have no key are in no stream, nor in another event's.
func TestStreamOfNone(t *testing.T) {
	one := sample.Int(1)
	l := []api.Event{of(0, one), of(1, one), of(2, one), of(3, one), of(-1, one), of(math.MinInt, one), of(math.MaxInt, one), of(0), of(4, one), of(5, one), of(0, one, one)}
	keys := []int{0, -1, 1, math.MinInt, math.MaxInt, -2}
	for at := range l {
		if at == 0 || at == 10 {
			wantStream(t, keys, l, at, 0, 10)
		} else {
			wantStream(t, keys, l, at)
		}
	}
	for at := range l {
		wantStream(t, []int{-1, -1, -1, -1, -1}, l, at)
	}
}

// P11.1: keys are held against each other as layer 2's Same does.
func TestStreamSame(t *testing.T) {
	l := []api.Event{}
	for _, v := range []api.Value{
		sample.Int(0), sample.Int(1), sample.Int(math.MinInt64),
		sample.Bool(0), sample.Bool(1), sample.Sym(0), sample.Sym(1),
		sample.Real(0), sample.Real(sample.SignBit), sample.Real(1), sample.Real(sample.NaN),
		{},
	} {
		l = append(l, of(0, v), of(0, v))
	}
	l = append(l, of(0, sample.Real(math.MaxUint64)), of(0, sample.Bool(2)), of(0, sample.Sym(api.MaxSyms)), of(0, api.Value{Kind: 9, Bits: 9}))
	for at := range 20 {
		wantStream(t, []int{0}, l, at, at&^1, at|1)
	}
	for _, at := range []int{20, 21, 24} { // a NaN is the Same as a NaN
		wantStream(t, []int{0}, l, at, 20, 21, 24)
	}
	for _, at := range []int{22, 23, 25, 26, 27} { // what isn't of the form counts as poison
		wantStream(t, []int{0}, l, at, 22, 23, 25, 26, 27)
	}
}

func wantOver(t *testing.T, l []api.Event, first int, window int64, wanted int) {
	t.Helper()
	if got := model.Over(l, first, window); got != wanted {
		t.Errorf("Over of the event %d, window %d: %d, wanted %d", first, window, got, wanted)
	}
}

// P11.1: the first event, of any stream, whose Time is above the first one's and the window.
func TestOver(t *testing.T) {
	l := bells(3, 3, 5, 5, 6, 9)
	l[2].Type, l[4].Type = -7, math.MaxInt
	for first, time := range []int64{3, 3, 5, 5, 6, 9} {
		for window := int64(-12); window < 12; window++ {
			wanted := len(l)
			for place := len(l) - 1; place >= 0; place-- {
				if l[place].Time > time+window {
					wanted = place
				}
			}
			wantOver(t, l, first, window, wanted)
		}
	}
	for _, window := range []int64{0, 5, math.MinInt64, math.MaxInt64} {
		for _, first := range []int{-1, 6, math.MinInt, math.MaxInt} {
			wantOver(t, l, first, window, 6)
			wantOver(t, nil, first, window, 0)
		}
		wantOver(t, nil, 0, window, 0)
	}
}

// P11.1: times and windows as great as can be.
func TestOverGreat(t *testing.T) {
	l := bells(0, 1, api.MaxTime-1, api.MaxTime, api.MaxTime)
	wantOver(t, l, 0, 0, 1)
	wantOver(t, l, 0, api.MaxTime-2, 2)
	wantOver(t, l, 0, api.MaxTime-1, 3)
	wantOver(t, l, 0, api.MaxTime, 5)
	wantOver(t, l, 4, 0, 5)
	wantOver(t, l, 4, -1, 3)
	for first := range l {
		wantOver(t, l, first, api.MaxTime, 5)
		wantOver(t, l, first, math.MaxInt64, 5)
		wantOver(t, l, first, math.MinInt64, 0)
	}
}
