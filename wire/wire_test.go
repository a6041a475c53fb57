package wire_test

import (
	"bytes"
	"hash/crc32"
	"math"
	"math/big"
	"math/rand/v2"
	"testing"

	"auspice/wire"
)

// P20.1: the chapter's examples, and each end of what a number of bytes can tell.
func TestBytes(t *testing.T) {
	for _, c := range []struct {
		n      uint64
		wanted string
	}{
		{0, "\x00"}, {1, "\x01"}, {127, "\x7f"}, {128, "\x80\x01"}, {300, "\xac\x02"}, {16383, "\xff\x7f"}, {16384, "\x80\x80\x01"},
		{1<<63 - 1, "\xff\xff\xff\xff\xff\xff\xff\xff\x7f"}, {1 << 63, "\x80\x80\x80\x80\x80\x80\x80\x80\x80\x01"}, {math.MaxUint64, "\xff\xff\xff\xff\xff\xff\xff\xff\xff\x01"},
	} {
		if got := string(wire.Uint(c.n)); got != c.wanted {
			t.Errorf("Uint(%d): % x, wanted % x", c.n, got, c.wanted)
		}
	}
	for _, c := range []struct {
		n      int64
		wanted string
	}{
		{0, "\x00"}, {-1, "\x01"}, {1, "\x02"}, {-2, "\x03"}, {63, "\x7e"}, {-64, "\x7f"}, {64, "\x80\x01"}, {-65, "\x81\x01"},
		{math.MaxInt64, "\xfe\xff\xff\xff\xff\xff\xff\xff\xff\x01"}, {math.MinInt64, "\xff\xff\xff\xff\xff\xff\xff\xff\xff\x01"},
	} {
		if got := string(wire.Int(c.n)); got != c.wanted {
			t.Errorf("Int(%d): % x, wanted % x", c.n, got, c.wanted)
		}
	}
}

// P20.1: numbers of all sizes, against the chapter's words; each is read again.
func TestNumbers(t *testing.T) {
	for _, n := range numbers() {
		b := wire.Uint(n)
		if !bytes.Equal(b, digits(new(big.Int).SetUint64(n))) {
			t.Fatalf("Uint(%d): % x", n, b)
		}
		wantRead(t, b)
	}
	for _, n := range signed() {
		b := wire.Int(n)
		if !bytes.Equal(b, digits(folded(n))) {
			t.Fatalf("Int(%d): % x", n, b)
		}
		wantRead(t, b)
		if got, ok := wire.Open(b).Int(); got != n || !ok {
			t.Fatalf("Int(%d) is read as %d, %v", n, got, ok)
		}
	}
}

// Rules, memory: each answer is new, with its spare room.
func TestNewBytes(t *testing.T) {
	for _, n := range []uint64{0, 5, 300, math.MaxUint64} {
		for _, write := range []func() []byte{func() []byte { return wire.Uint(n) }, func() []byte { return wire.Int(int64(n)) }} {
			wanted := bytes.Clone(write())
			spoilt := write()
			spoilt = spoilt[:cap(spoilt)]
			for at := range spoilt {
				spoilt[at] = 0x55
			}
			if got := write(); !bytes.Equal(got, wanted) {
				t.Errorf("% x became % x", wanted, got)
			}
		}
	}
}

// P20.2: the sum that zip has.
func TestSum(t *testing.T) {
	for text, wanted := range map[string]uint32{"": 0, "123456789": 0xcbf43926, "a": 0xe8b7be43, "\x00": 0xd202ef8d, "\xff\xff\xff\xff": 0xffffffff} {
		if got := wire.Sum([]byte(text)); got != wanted {
			t.Errorf("%q: %#x, wanted %#x", text, got, wanted)
		}
	}
	if got := wire.Sum(nil); got != 0 {
		t.Errorf("nil: %#x", got)
	}
	for c := range 256 {
		for d := range 256 {
			wantSum(t, []byte{byte(c), byte(d)})
		}
	}
	r := rand.New(rand.NewPCG(20, 2))
	for range 2000 {
		b := make([]byte, r.IntN(300))
		for at := range b {
			b[at] = byte(r.Uint32())
		}
		wantSum(t, b)
	}
	wantSum(t, make([]byte, 1<<20))
}

func wantSum(t *testing.T, b []byte) {
	t.Helper()
	before := bytes.Clone(b)
	if got, wanted := wire.Sum(b), crc32.ChecksumIEEE(before); got != wanted || !bytes.Equal(b, before) {
		t.Fatalf("% x: %#x, wanted %#x", before, got, wanted)
	}
}
