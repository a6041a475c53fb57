// Package sample holds what the tests of several layers are made of. No layer calls it.
package sample

import "auspice/api"

// Bits of reals.
const (
	NaN      = 0x7ff8000000000000
	Infinite = 0x7ff0000000000000
	SignBit  = 0x8000000000000000
	One      = 0x3ff0000000000000
)

func Int(n int64) api.Value { return api.Value{Kind: api.Int, Bits: uint64(n)} }

// Bool takes bits, so that a test may hand in others than 0 and 1.
func Bool(bits uint64) api.Value { return api.Value{Kind: api.Bool, Bits: bits} }

func Sym(place uint64) api.Value { return api.Value{Kind: api.Sym, Bits: place} }

func Real(bits uint64) api.Value { return api.Value{Kind: api.Real, Bits: bits} }
