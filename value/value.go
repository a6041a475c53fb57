// Package value is layer 2: see shared/doc/02-value.md.
package value

import (
	"cmp"

	"auspice/api"
	"auspice/real"
)

func Clean(v api.Value) api.Value {
	switch {
	case v.Kind == api.Int:
		return v
	case v.Kind == api.Bool && v.Bits <= 1:
		return v
	case v.Kind == api.Sym && v.Bits < api.MaxSyms:
		return v
	case v.Kind == api.Real:
		return ofReal(real.Canon(v.Bits))
	}
	return api.Value{}
}

func Same(a, b api.Value) bool {
	return Clean(a) == Clean(b)
}

func Order(a, b api.Value) int {
	a, b = Clean(a), Clean(b)
	switch {
	case a.Kind != b.Kind:
		return cmp.Compare(a.Kind, b.Kind)
	case a.Kind == api.Int:
		return cmp.Compare(int64(a.Bits), int64(b.Bits))
	case a.Kind == api.Real:
		return real.Order(a.Bits, b.Bits)
	}
	return cmp.Compare(a.Bits, b.Bits)
}

func Result(op int, kinds []int) int {
	switch len(kinds) {
	case 1:
		return resultOfOne(op, kinds[0])
	case 2:
		// No operator takes two of unlike kinds.
		if kinds[0] == kinds[1] {
			return resultOfTwo(op, kinds[0])
		}
	}
	return api.Poison
}

func Apply(op int, args []api.Value) (answer api.Value) {
	defer func() {
		switch gone := recover(); gone {
		case nil:
		case outside{}:
			answer = api.Value{}
		default: // a mistake of the program's own: not to be taken for poison
			panic(gone)
		}
	}()
	switch len(args) {
	case 1:
		return applyToOne(op, Clean(args[0]))
	case 2:
		return applyToTwo(op, Clean(args[0]), Clean(args[1]))
	}
	return api.Value{}
}

// outside is what an operator gives up with (by panic) where its answer leaves its numbers.
type outside struct{}

func ofInt(n int64) api.Value {
	return api.Value{Kind: api.Int, Bits: uint64(n)}
}

func ofReal(bits uint64) api.Value {
	return api.Value{Kind: api.Real, Bits: bits}
}

func ofBool(yes bool) api.Value {
	if yes {
		return api.Value{Kind: api.Bool, Bits: 1}
	}
	return api.Value{Kind: api.Bool, Bits: 0}
}
