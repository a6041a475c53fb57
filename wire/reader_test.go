package wire_test

import (
	"bytes"
	"math"
	"math/rand/v2"
	"slices"
	"testing"

	"auspice/wire"
)

// P20.3: bytes by hand: what ends too soon, what is longer than it must be, what is too great; and what is just not so.
func TestReadEdges(t *testing.T) {
	ff, zeros := bytes.Repeat([]byte{0xff}, 20), bytes.Repeat([]byte{0x80}, 20)
	for _, b := range [][]byte{
		nil, {}, {0}, {0x80}, {0x80, 0}, {0x80, 0x80}, {0x80, 0x80, 0}, {0x80, 0x80, 1}, {0xff, 0}, {0xff, 0x80, 0}, {0xff, 0x80, 1}, {0x80, 1}, {0, 0}, {1, 0x80, 0}, {0x7f}, {0xff},
	} {
		wantRead(t, b)
	}
	for length := range 20 {
		for _, ahead := range [][]byte{ff[:length], zeros[:length]} {
			for last := range 256 {
				wantRead(t, append(slices.Clone(ahead), byte(last)))
				wantRead(t, append(slices.Clone(ahead), byte(last), 0))
				wantRead(t, append(slices.Clone(ahead), byte(last), 1, 7))
			}
		}
	}
	for _, b := range [][]byte{append(slices.Clone(ff[:9]), 2), append(slices.Clone(zeros[:9]), 2), append(slices.Clone(ff[:9]), 0x81, 0), append(slices.Clone(ff[:10]), 1), append(slices.Clone(zeros[:10]), 1), zeros, ff} {
		r := wire.Open(b)
		if n, ok := r.Uint(); n != 0 || ok || r.Left() != len(b) {
			t.Errorf("% x: %d, %v, %d left", b, n, ok, r.Left())
		}
	}
	r := wire.Open(append(slices.Clone(ff[:9]), 1))
	if n, ok := r.Uint(); n != math.MaxUint64 || !ok || r.Left() != 0 {
		t.Errorf("the greatest number: %d, %v", n, ok)
	}
}

// P20.3: bytes of all sorts, all of those that are few.
func TestReadAll(t *testing.T) {
	few := []byte{0, 1, 2, 0x7f, 0x80, 0x81, 0xff}
	for c := range 256 {
		wantRead(t, []byte{byte(c)})
		for d := range 256 {
			wantRead(t, []byte{byte(c), byte(d)})
		}
		for _, d := range few {
			for _, e := range few {
				wantRead(t, []byte{byte(c), d, e})
			}
		}
	}
	r := rand.New(rand.NewPCG(20, 3))
	for range 100000 {
		b := make([]byte, r.IntN(14))
		for at := range b {
			b[at] = few[r.IntN(len(few))]
			if r.IntN(4) > 0 {
				b[at] = byte(128 + r.IntN(128))
			}
		}
		wantRead(t, b)
	}
}

// P20.3: numbers that stand one behind the other, each read by one of the calls, those that read nothing among them.
func TestReadOn(t *testing.T) {
	r := rand.New(rand.NewPCG(20, 4))
	all := signed()
	for range 500 {
		b, l := []byte{}, []int64{}
		for range r.IntN(30) {
			n := all[r.IntN(len(all))]
			l = append(l, n)
			b = append(b, wire.Int(n)...)
		}
		reader, left := wire.Open(b), len(b)
		for _, n := range l {
			if n > math.MinInt64 {
				wantNone(t, reader, math.MinInt64, n-1)
			}
			got, ok := int64(0), false
			switch r.IntN(3) {
			case 0:
				u := uint64(0)
				u, ok = reader.Uint()
				got = int64(u/2) ^ -int64(u%2)
			case 1:
				got, ok = reader.Int()
			default:
				got, ok = reader.Upto(n, n)
			}
			left -= len(wire.Int(n))
			if got != n || !ok || reader.Left() != left {
				t.Fatalf("%v: %d, %v, %d left; wanted %d, %d", l, got, ok, reader.Left(), n, left)
			}
		}
		wantNone(t, reader, math.MinInt64, math.MaxInt64)
	}
}

func wantNone(t *testing.T, r *wire.Reader, least, most int64) {
	t.Helper()
	left := r.Left()
	if n, ok := r.Upto(least, most); n != 0 || ok || r.Left() != left {
		t.Fatalf("Upto(%d, %d): %d, %v, %d left of %d", least, most, n, ok, r.Left(), left)
	}
}

// P20.3: of a nil reader, and of one of no bytes.
func TestNoBytes(t *testing.T) {
	for _, r := range []*wire.Reader{nil, {}, wire.Open(nil), wire.Open([]byte{})} {
		for range 2 {
			if n, ok := r.Uint(); n != 0 || ok {
				t.Errorf("Uint: %d, %v", n, ok)
			}
			if n, ok := r.Int(); n != 0 || ok {
				t.Errorf("Int: %d, %v", n, ok)
			}
			if n, ok := r.Upto(math.MinInt64, math.MaxInt64); n != 0 || ok {
				t.Errorf("Upto: %d, %v", n, ok)
			}
			if r.Left() != 0 {
				t.Errorf("Left: %d", r.Left())
			}
		}
	}
}

// Rules, memory: what a reader is opened with is neither changed nor kept, and no two readers share where they stand.
func TestReaderMemory(t *testing.T) {
	room := []byte{0xac, 2, 0x80, 0, 7, 7, 7}
	b := room[:4]
	one, other := wire.Open(b), wire.Open(b)
	one.Uint()
	one.Uint()
	one.Upto(0, 1)
	if !bytes.Equal(room, []byte{0xac, 2, 0x80, 0, 7, 7, 7}) {
		t.Errorf("it became % x", room)
	}
	for at := range room {
		room[at] = 1
	}
	if other.Left() != 4 || one.Left() != 2 {
		t.Errorf("%d and %d left", one.Left(), other.Left())
	}
	if n, ok := other.Uint(); n != 300 || !ok {
		t.Errorf("%d, %v", n, ok)
	}
	if n, ok := one.Uint(); n != 0 || ok {
		t.Errorf("%d, %v", n, ok)
	}
}
