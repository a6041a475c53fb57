package image_test

import (
	"bytes"
	"math"
	"math/rand/v2"
	"reflect"
	"slices"
	"testing"

	"auspice/api"
	"auspice/image"
)

// P21.1, P21.2: the chapter's example, and a table that has something at each place, byte by byte.
func TestExample(t *testing.T) {
	b, err := wantEncode(t, api.Table{Strategy: 3, Runs: 1, Cells: 1})
	if err != api.OK || !bytes.Equal(b[:12], []byte{0x41, 0x55, 0x53, 0x50, 6, 0, 0, 0, 2, 2, 0, 0}) || len(b) != 16 {
		t.Errorf("%d and % x", err, b)
	}
	b, err = wantEncode(t, api.Table{
		Strategy: 1, Keys: []int{2, -1}, Kinds: [][]int{{3, 4}, {}, nil}, Syms: 5, Runs: 6, Cells: 7,
		States: []api.Row{{Parent: -1, Type: 8, Many: true, Window: 300, Bars: []api.Stop{{Type: 9, Guard: 10}}, Leave: 11, Guard: 12, Ends: []api.Tail{{Branch: 13, Close: 14, Bars: []api.Stop{{Type: 15, Guard: 16}, {}}}}}, {}},
		Codes:  []api.Code{{Regs: 17, Slots: 18, Inputs: []api.Input{{Op: 19, Kind: 20, Pos: 21, Attr: 22}}, Consts: []api.Value{{Kind: 23, Bits: 24}, {Bits: math.MaxUint64}}, List: []api.Ins{{Op: 25, Dst: 26, A: 27, B: 28}}}},
	})
	wanted := whole([]byte{
		2, 4, 4, 1, 6, 4, 6, 8, 0, 0, 10, 12, 14,
		4, 1, 16, 2, 0xd8, 4, 2, 18, 20, 22, 24, 2, 26, 28, 4, 30, 32, 0, 0,
		0, 0, 0, 0, 0, 0, 0, 0,
		2, 34, 36, 2, 38, 40, 42, 44, 4, 46, 24, 0, 0xff, 0xff, 0xff, 0xff, 0xff, 0xff, 0xff, 0xff, 0xff, 1, 2, 50, 52, 54, 56,
	})
	if err != api.OK || !bytes.Equal(b, wanted) {
		t.Errorf("%d and % x, wanted % x", err, b, wanted)
	}
}

// P21.1, P21.2: tables of all sorts, against the chapter's words, and back.
func TestEncodeRandom(t *testing.T) {
	r := rand.New(rand.NewPCG(21, 1))
	for range 4000 {
		wantEncode(t, random(r.IntN))
	}
}

// P21.1: each number of a table at the edges of what it may be, and beyond. Bits may be any.
func TestNumbers(t *testing.T) {
	x := full()
	numbers := parts(reflect.ValueOf(&x).Elem(), reflect.Int, reflect.Int64)
	for _, n := range []int64{math.MinInt64, -2, -1, 0, 1, 1 << 59, 1<<60 - 1, 1 << 60, 1<<60 + 1, math.MaxInt64} {
		for at, v := range numbers {
			had := v.Int()
			v.SetInt(n)
			if _, err := wantEncode(t, x); (err == api.OK) != (n >= -1 && n <= api.MaxTime) {
				t.Errorf("%d as the number %d: %d", n, at, err)
			}
			v.SetInt(had)
		}
	}
	all := parts(reflect.ValueOf(&x).Elem(), reflect.Uint64)
	for _, n := range []uint64{0, 1, 1<<60 + 1, math.MaxInt64, 1 << 63, math.MaxUint64} {
		for _, v := range all {
			v.SetUint(n)
			if _, err := wantEncode(t, x); err != api.OK {
				t.Errorf("Bits %d: %d", n, err)
			}
		}
	}
	if len(numbers) < 60 || len(all) < 4 {
		t.Errorf("%d numbers, %d Bits", len(numbers), len(all))
	}
}

// P21.1: each list of a table with as many things as may be, and one more.
func TestLists(t *testing.T) {
	x := full()
	lists := parts(reflect.ValueOf(&x).Elem(), reflect.Slice)
	sorts := map[string]int{}
	for _, v := range lists {
		had := v.Interface()
		for _, count := range []int{0, 1, api.MaxCode - 1, api.MaxCode, api.MaxCode + 1, 3000} {
			v.Set(reflect.MakeSlice(v.Type(), count, count))
			if _, err := wantEncode(t, x); (err == api.OK) != (count <= api.MaxCode) {
				t.Errorf("%d things in a %s: %d", count, v.Type(), err)
			}
			v.Set(reflect.ValueOf(had))
		}
		sorts[v.Type().String()]++
	}
	if len(sorts) != 9 || len(lists) < 20 {
		t.Errorf("%d lists: %v", len(lists), sorts)
	}
}

// sized is a table whose image has so many bytes, 42000 to 70000.
func sized(length int) api.Table {
	t := api.Table{}
	for range 4 {
		t.Codes = append(t.Codes, api.Code{Inputs: make([]api.Input, api.MaxCode), Consts: make([]api.Value, api.MaxCode), List: make([]api.Ins, api.MaxCode)})
	}
	more := length - len(whole(written(nil, reflect.ValueOf(t))))
	for at := 0; more > 0; at++ {
		part := min(more, 9) // of the ten bytes that Bits may have one stands there already
		t.Codes[at%4].Consts[at/4].Bits = 1 << (7 * part)
		more -= part
	}
	return t
}

// P21.1: an image of just as many bytes as may be, and of one more.
func TestLength(t *testing.T) {
	for _, length := range []int{42000, api.MaxImage - 1, api.MaxImage} {
		if b, err := wantEncode(t, sized(length)); err != api.OK || len(b) != length {
			t.Errorf("%d bytes: %d and %d bytes", length, err, len(b))
		}
	}
	for _, length := range []int{api.MaxImage + 1, api.MaxImage + 2, api.MaxImage + 3, api.MaxImage + 4, api.MaxImage + 5, api.MaxImage + 9, 70000} {
		if b, err := wantEncode(t, sized(length)); err != api.ErrLong || b != nil {
			t.Errorf("%d bytes: %d and %d bytes", length, err, len(b))
		}
	}
}

// P21.1: ErrForm goes ahead of ErrLong, wherever what isn't right stands.
func TestFormFirst(t *testing.T) {
	for _, change := range []func(x *api.Table){
		func(x *api.Table) { x.Strategy = -2 },
		func(x *api.Table) { x.Codes[3].List[api.MaxCode-1].B = -2 },
		func(x *api.Table) { x.Codes[3].Consts[api.MaxCode-1].Kind = api.MaxTime + 1 },
		func(x *api.Table) { x.Codes[3].List = append(x.Codes[3].List, api.Ins{}) },
		func(x *api.Table) { x.Codes = append(x.Codes, api.Code{Regs: -2}) },
		func(x *api.Table) { x.Keys = make([]int, 1<<20) },
	} {
		x := sized(70000)
		change(&x)
		if _, err := wantEncode(t, x); err != api.ErrForm {
			t.Errorf("%d", err)
		}
	}
}

// P1: lists that share their memory, so that there is far more than memory holds.
func TestShared(t *testing.T) {
	bars := make([]api.Stop, api.MaxCode)
	ends := slices.Repeat([]api.Tail{{Bars: bars}}, api.MaxCode)
	x := api.Table{States: slices.Repeat([]api.Row{{Bars: bars, Ends: ends}}, 60)}
	if b, err := image.Encode(x); err != api.ErrLong || b != nil {
		t.Errorf("%d and %d bytes", err, len(b))
	}
	x.States = append(x.States, api.Row{Window: -2})
	if b, err := image.Encode(x); err != api.ErrForm || b != nil {
		t.Errorf("%d and %d bytes", err, len(b))
	}
}

// Rules, memory: what is handed in stays as it is, spare room included, and each answer is new.
func TestEncodeMemory(t *testing.T) {
	x := full()
	for _, v := range parts(reflect.ValueOf(&x).Elem(), reflect.Slice) {
		room := reflect.MakeSlice(v.Type(), v.Len(), v.Len()+3)
		reflect.Copy(room, v)
		fill(room.Slice(v.Len(), v.Len()+3).Index(1), func(n int) int { return n - 1 }, 1)
		v.Set(room)
	}
	before, rooms := dump(x), dump(spare(reflect.ValueOf(x)))
	wanted, _ := image.Encode(x)
	wanted = bytes.Clone(wanted)
	spoilt, _ := image.Encode(x)
	spoilt = spoilt[:cap(spoilt)]
	for at := range spoilt {
		spoilt[at] = 0x55
	}
	if dump(x) != before || dump(spare(reflect.ValueOf(x))) != rooms {
		t.Errorf("%s became %s", before, dump(x))
	}
	if got, _ := image.Encode(x); !bytes.Equal(got, wanted) {
		t.Errorf("% x became % x", wanted, got)
	}
}

// spare is what stands in the spare room of all lists of a thing.
func spare(v reflect.Value) []any {
	l := []any{}
	for _, part := range parts(v, reflect.Slice) {
		l = append(l, part.Slice3(part.Len(), part.Cap(), part.Cap()).Interface())
	}
	return l
}
