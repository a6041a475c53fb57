package image_test

import (
	"bytes"
	"math/big"
	"math/rand/v2"
	"reflect"
	"slices"
	"testing"

	"auspice/api"
	"auspice/image"
	"auspice/sample"
	"auspice/wire"
)

// P21.2: which error goes ahead of which, and that nothing stands beside it.
func TestErrors(t *testing.T) {
	example, _ := image.Encode(api.Table{Strategy: 3, Runs: 1, Cells: 1})
	table := example[4 : len(example)-4]
	most, err := image.Encode(sized(api.MaxImage))
	if err != api.OK {
		t.Fatal(err)
	}
	wantRefused(t, "one byte too many", append(slices.Clone(most), 0), api.ErrLong)
	wantRefused(t, "one byte too many, summed", whole(append(slices.Clone(most[4:len(most)-4]), 0)), api.ErrLong)
	wantRefused(t, "noughts, too many", make([]byte, api.MaxImage+1), api.ErrLong)
	wantRefused(t, "noughts, as many as may be", make([]byte, api.MaxImage), api.ErrImage)
	wantRefused(t, "nil", nil, api.ErrShort)
	for length := range 8 {
		wantRefused(t, "short", example[:length], api.ErrShort)
		wantRefused(t, "short noughts", make([]byte, length), api.ErrShort)
	}
	wantRefused(t, "eight noughts", make([]byte, 8), api.ErrImage)
	for at := range 4 {
		for c := range 256 {
			b := slices.Clone(example)
			b[at] = byte(c)
			if byte(c) != example[at] {
				wantRefused(t, "another beginning", b, api.ErrImage)
				b[len(b)-1]++
				wantRefused(t, "another beginning, another sum", b, api.ErrImage)
			}
		}
	}
	for at := 4; at < len(example); at++ {
		for bit := range 8 {
			b := slices.Clone(example)
			b[at] ^= 1 << bit
			wantRefused(t, "a bit is another one", b, api.ErrSum)
		}
	}
	for length := 8; length < len(example); length++ {
		wantRefused(t, "cut off", example[:length], api.ErrSum)
	}
	wantRefused(t, "no table", whole(nil), api.ErrImage)
	wantRefused(t, "no table, another sum", []byte("AUSP\x00\x00\x00\x00"), api.ErrSum)
	swapped := slices.Clone(example)
	slices.Reverse(swapped[len(swapped)-4:])
	wantRefused(t, "the sum's highest byte first", swapped, api.ErrSum)
	wantRefused(t, "the sum of the table alone", append(append([]byte("AUSP"), table...), little(wire.Sum(table))...), api.ErrSum)
	wantRefused(t, "a byte behind the sum", append(slices.Clone(example), 0), api.ErrSum)
}

func little(x uint32) []byte {
	return []byte{byte(x), byte(x >> 8), byte(x >> 16), byte(x >> 24)}
}

// P21.2: a table's bytes that are cut off anywhere, and such that more stand behind.
func TestCut(t *testing.T) {
	b := written(nil, reflect.ValueOf(full()))
	for length := range b {
		if err := wantDecode(t, whole(b[:length])); err != api.ErrImage {
			t.Errorf("%d bytes: %d", length, err)
		}
	}
	if err := wantDecode(t, whole(b)); err != api.OK {
		t.Errorf("whole: %d", err)
	}
	for c := range 256 {
		if err := wantDecode(t, whole(append(slices.Clone(b), byte(c)))); err != api.ErrImage {
			t.Errorf("%d behind: %d", c, err)
		}
	}
}

// P21.2: each number of a table, count, Many and Bits among them, is put otherwise, one byte longer than it must be, or what may not be.
func TestOtherNumbers(t *testing.T) {
	b := written(nil, reflect.ValueOf(full()))
	refused := 0
	for at := 0; at < len(b); {
		length := slices.IndexFunc(b[at:], func(c byte) bool { return c < 128 }) + 1
		number := b[at : at+length]
		longer := append(slices.Clone(number), 0)
		longer[length-1] += 128
		others := [][]byte{longer, append(bytes.Repeat([]byte{0x80}, 9), 2), bytes.Repeat([]byte{0xff}, 11), nil}
		for _, n := range []int64{-2, -1, 0, 1, 2, 3, api.MaxCode, api.MaxCode + 1, api.MaxTime, api.MaxTime + 1} {
			others = append(others, wire.Int(n))
		}
		for _, other := range others {
			if wantDecode(t, whole(slices.Concat(b[:at], other, b[at+length:]))) == api.ErrImage {
				refused++
			}
		}
		at += length
	}
	if refused < 500 {
		t.Errorf("%d refused", refused)
	}
}

// P21.2: Many is the number 1 or 0, and nothing else.
func TestMany(t *testing.T) {
	ahead, behind := []byte{0, 0, 0, 0, 0, 0, 2, 0, 0}, []byte{0, 0, 0, 0, 0, 0}
	for n := int64(-3); n < 300; n++ {
		err := wantDecode(t, whole(slices.Concat(ahead, wire.Int(n), behind)))
		if (err == api.OK) != (n == 0 || n == 1) {
			t.Errorf("%d: %d", n, err)
		}
	}
}

// P21.2: Bits have as many bytes as are enough, and are at most 2^64 - 1; they aren't folded as other numbers.
func TestBits(t *testing.T) {
	ahead, behind := []byte{0, 0, 0, 0, 0, 0, 0, 2, 0, 0, 0, 2, 2}, []byte{0}
	last := new(big.Int).Lsh(big.NewInt(1), 64)
	for _, n := range []*big.Int{big.NewInt(0), big.NewInt(1), big.NewInt(1 << 62), new(big.Int).Sub(last, big.NewInt(1)), last, new(big.Int).Lsh(last, 1), new(big.Int).Lsh(last, 100)} {
		bits := []byte{}
		for rest := new(big.Int).Set(n); len(bits) == 0 || rest.Sign() > 0; rest.Rsh(rest, 7) {
			bits = append(bits, byte(rest.Bit(0)+2*rest.Bit(1)+4*rest.Bit(2)+8*rest.Bit(3)+16*rest.Bit(4)+32*rest.Bit(5)+64*rest.Bit(6))+128)
		}
		bits[len(bits)-1] -= 128
		b := whole(slices.Concat(ahead, bits, behind))
		if err := wantDecode(t, b); (err == api.OK) != n.IsUint64() {
			t.Errorf("%v: %d", n, err)
		}
		if x, err := image.Decode(b); err == api.OK && x.Codes[0].Consts[0].Bits != n.Uint64() {
			t.Errorf("%v: %v", n, x)
		}
	}
}

// P21.2: a list of as many things as may be, and of one more, all of them there.
func TestCounts(t *testing.T) {
	for _, count := range []int{0, 1, api.MaxCode - 1, api.MaxCode, api.MaxCode + 1, 30000} {
		things := slices.Concat([]byte{6}, wire.Int(int64(count)), make([]byte, count), []byte{0, 0, 0, 0, 0, 0})
		if err := wantDecode(t, whole(things)); (err == api.OK) != (count <= api.MaxCode) {
			t.Errorf("%d Keys: %d", count, err)
		}
	}
	for _, count := range []int64{-1, -2, 1, 7, api.MaxCode, api.MaxCode + 1, 1 << 31, api.MaxTime, api.MaxTime + 1} {
		wantRefused(t, "nothing behind", whole(append([]byte{6}, wire.Int(count)...)), api.ErrImage)
	}
}

// P21.2: bytes of all sorts whose sum is right, against the chapter's words.
func TestDecodeRandom(t *testing.T) {
	r := rand.New(rand.NewPCG(21, 2))
	few, answers := []byte{0, 0, 0, 0, 2, 2, 1, 3, 4, 6, 0x80, 0xff}, map[api.Errno]int{}
	for range 30000 {
		b := make([]byte, 8+r.IntN(30))
		for at := range b {
			b[at] = few[r.IntN(len(few)-2*r.IntN(2)-2*r.IntN(2)-4*r.IntN(2))]
		}
		answers[wantDecode(t, whole(b))]++
	}
	for range 3000 {
		b := written(nil, reflect.ValueOf(random(r.IntN)))
		for range 1 + r.IntN(2) {
			at := r.IntN(len(b))
			switch r.IntN(4) {
			case 0:
				b[at] = byte(r.IntN(256))
			case 1:
				b[at] = few[r.IntN(len(few))]
			case 2:
				b = slices.Insert(b, at, few[r.IntN(len(few))])
			default:
				b = slices.Delete(b, at, min(len(b), at+1+len(b)/1000))
			}
			b = append(b, 0)[:max(1, len(b))]
		}
		answers[wantDecode(t, whole(b))]++
	}
	if answers[api.OK] < 500 || answers[api.ErrImage] < 5000 {
		t.Errorf("%v", answers)
	}
}

// P1: bytes of all sorts, most of them with another sum.
func TestAnyBytes(t *testing.T) {
	r := rand.New(rand.NewPCG(21, 3))
	for range 20000 {
		b := make([]byte, r.IntN(60))
		for at := range b {
			b[at] = byte(r.IntN(256))
		}
		copy(b, "AUSP"[:r.IntN(5)])
		if x, err := image.Decode(b); err == api.OK || dump(x) != dump(api.Table{}) {
			t.Errorf("% x: %d beside %s", b, err, dump(x))
		}
	}
}

// Rules, memory: the bytes stay as they are and aren't kept, and no two lists share any.
func TestDecodeMemory(t *testing.T) {
	wanted, pick := full(), rand.New(rand.NewPCG(21, 4)).IntN
	for range 100 {
		b, err := image.Encode(wanted)
		if err != api.OK {
			t.Fatal(err)
		}
		b = append(b, 1, 2, 3, 4)[:len(b)]
		room := slices.Clone(b[:len(b)+4])
		one, _ := image.Decode(b)
		other, _ := image.Decode(b)
		if !bytes.Equal(b[:len(b)+4], room) {
			t.Errorf("% x became % x", room, b[:len(b)+4])
		}
		clear(b[:len(b)+4])
		if dump(one) != dump(wanted) || dump(other) != dump(wanted) {
			t.Errorf("%s became %s and %s", dump(wanted), dump(one), dump(other))
		}
		if !sample.Once(rooms(reflect.ValueOf(one)), rooms(reflect.ValueOf(other))) {
			t.Errorf("memory is shared: %s", dump(one))
		}
		wanted = random(pick)
	}
}

// rooms are the addresses of all that a thing's lists have room for.
func rooms(v reflect.Value) []any {
	l := []any{}
	switch v.Kind() {
	case reflect.Struct:
		for at := range v.NumField() {
			l = append(l, rooms(v.Field(at))...)
		}
	case reflect.Slice:
		v = v.Slice(0, v.Cap())
		for at := range v.Len() {
			l = append(append(l, v.Index(at).Addr().Interface()), rooms(v.Index(at))...)
		}
	}
	return l
}
