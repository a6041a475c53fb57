package eval_test

import (
	"math"

	"auspice/api"
	"auspice/eval"
	"auspice/sample"
)

func of(op int, args ...api.Node) api.Node {
	return api.Node{Op: op, Args: args}
}

func constant(v api.Value) api.Node {
	return api.Node{Op: api.Const, Value: v}
}

func cur(attr int) api.Node {
	return api.Node{Op: api.Cur, Attr: attr}
}

func gather(op, pos, attr int) api.Node {
	return api.Node{Op: op, Pos: pos, Attr: attr}
}

// yes is a Bool that is true, or false.
func yes(is bool) api.Value {
	if is {
		return sample.Bool(1)
	}
	return sample.Bool(0)
}

// row is a look at events of one attribute each, all bound by position 0.
func row(l ...api.Value) eval.Look {
	k := eval.Look{Bound: [][]int{{}}, Cur: len(l) - 1}
	for i, v := range l {
		k.Events = append(k.Events, api.Event{Attrs: []api.Value{v}})
		k.Bound[0] = append(k.Bound[0], i)
	}
	return k
}

// values are of all kinds, those too that aren't of the form.
func values() []api.Value {
	l := []api.Value{{}, {Bits: 7}, {Kind: 5, Bits: 1}, {Kind: -1}, {Kind: math.MaxInt, Bits: math.MaxUint64}}
	for _, n := range []int64{0, 1, -1, 2, 3, 7, -9, math.MaxInt64, math.MinInt64} {
		l = append(l, sample.Int(n))
	}
	for _, bits := range []uint64{0, 1, 2, math.MaxUint64} {
		l = append(l, sample.Bool(bits))
	}
	for _, place := range []uint64{0, 1, api.MaxSyms - 1, api.MaxSyms, math.MaxUint64} {
		l = append(l, sample.Sym(place))
	}
	for _, f := range []float64{0, 1, -1, 0.1, 0.2, 3, 1e308, -1e308, 1e-320} {
		l = append(l, sample.Real(math.Float64bits(f)))
	}
	for _, bits := range []uint64{sample.SignBit, sample.Infinite, sample.Infinite | sample.SignBit, sample.NaN, sample.NaN | 1, math.MaxUint64} {
		l = append(l, sample.Real(bits))
	}
	return l
}
