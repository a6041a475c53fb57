package streams_test

import (
	"math"
	"testing"

	"auspice/api"
	"auspice/sample"
	"auspice/streams"
)

func wantKey(t *testing.T, keys []int, e api.Event, wanted api.Value, is bool) {
	t.Helper()
	if got, ok := streams.Key(keys, e); got != wanted || ok != is {
		t.Errorf("Key(%v, %v): %v, %v", keys, e, got, ok)
	}
}

// Without keys all events are in one stream, whatever they are; else a type's key is told by its place.
func TestKey(t *testing.T) {
	e := func(kind int, attrs ...api.Value) api.Event { return api.Event{Type: kind, Attrs: attrs} }
	for _, kind := range []int{0, 1, 2, -1, math.MaxInt, math.MinInt} {
		wantKey(t, nil, e(kind, sample.Int(1)), api.Value{}, true)
		wantKey(t, []int{}, e(kind), api.Value{}, true)
		wantKey(t, []int{-1, -2, 3, math.MinInt}, e(kind, sample.Int(1), sample.Int(2), sample.Int(3)), api.Value{}, false)
	}
	keys := []int{1, 0, -1, math.MaxInt}
	wantKey(t, keys, e(0, sample.Int(5), sample.Sym(3)), sample.Sym(3), true)
	wantKey(t, keys, e(1, sample.Int(5), sample.Sym(3)), sample.Int(5), true)
	wantKey(t, keys, e(0, sample.Int(5)), api.Value{}, false)
	wantKey(t, keys, e(1), api.Value{}, false)
	for _, kind := range []int{2, 3, 4, -1, math.MaxInt, math.MinInt} {
		wantKey(t, keys, e(kind, sample.Int(5), sample.Int(5)), api.Value{}, false)
	}
}

// Keys are what values count as.
func TestKeyIsClean(t *testing.T) {
	for _, c := range [][2]api.Value{
		{sample.Real(sample.NaN | 1), sample.Real(sample.NaN)},
		{sample.Real(sample.SignBit), sample.Real(sample.SignBit)},
		{sample.Bool(2), {}},
		{sample.Sym(api.MaxSyms), {}},
		{{Kind: 9, Bits: 9}, {}},
		{{}, {}},
	} {
		wantKey(t, []int{0}, api.Event{Attrs: []api.Value{c[0]}}, c[1], true)
	}
}
