package load_test

import (
	"bytes"
	"math"
	"math/rand/v2"
	"slices"
	"testing"

	"auspice/api"
	"auspice/auto"
	"auspice/image"
	"auspice/load"
	"auspice/sample"
)

func encoded(t *testing.T, x api.Table) []byte {
	t.Helper()
	b, err := image.Encode(x)
	if err != api.OK {
		t.Fatalf("no image: %d", err)
	}
	return b
}

// wantLoad holds Load against layer 21's Decode and the chapter's words.
func wantLoad(t *testing.T, b []byte) api.Errno {
	t.Helper()
	wanted, wantedErr := image.Decode(b)
	if wantedErr == api.OK && !byWords(wanted) {
		wanted, wantedErr = api.Table{}, api.ErrImage
	}
	before := bytes.Clone(b)
	got, err := load.Load(b)
	if err != wantedErr || dump(got) != dump(wanted) {
		t.Fatalf("% x: %d beside %s, wanted %d beside %s", b, err, dump(got), wantedErr, dump(wanted))
	}
	if !bytes.Equal(b, before) {
		t.Fatalf("% x became % x", before, b)
	}
	return err
}

// P22.1: Load's errors, and that nothing stands beside them.
func TestLoad(t *testing.T) {
	b := encoded(t, full())
	if got, err := load.Load(b); err != api.OK || dump(got) != dump(full()) {
		t.Errorf("%d beside %s", err, dump(got))
	}
	other := bytes.Clone(b)
	other[len(other)-1]++
	cut := full()
	cut.Runs = 0
	for _, c := range []struct {
		what   string
		b      []byte
		wanted api.Errno
	}{
		{"nil", nil, api.ErrShort},
		{"seven bytes", b[:7], api.ErrShort},
		{"too many bytes", make([]byte, api.MaxImage+1), api.ErrLong},
		{"noughts", make([]byte, 8), api.ErrImage},
		{"another sum", other, api.ErrSum},
		{"cut off", b[:len(b)-1], api.ErrSum},
		{"one that may not be run", encoded(t, cut), api.ErrImage},
		{"the zero table", encoded(t, api.Table{}), api.ErrImage},
	} {
		if err := wantLoad(t, c.b); err != c.wanted {
			t.Errorf("%s: %d, wanted %d", c.what, err, c.wanted)
		}
		if got, _ := load.Load(c.b); dump(got) != dump(api.Table{}) {
			t.Errorf("%s: beside the error %s", c.what, dump(got))
		}
	}
}

// P22.1: images of changed tables, and such with changed bytes.
func TestLoadRandom(t *testing.T) {
	r := rand.New(rand.NewPCG(22, 3))
	m, answers := &sample.Maker{Pick: r.IntN}, map[api.Errno]int{}
	for range 2000 {
		p, ok := sample.Planned(m.Query())
		if !ok {
			continue
		}
		x := tableOf(t, built(t, p, 0), true, 4)
		answers[wantLoad(t, encoded(t, x))]++
		spoil(r, &x)
		if b, err := image.Encode(x); err == api.OK {
			answers[wantLoad(t, b)]++
			b[r.IntN(len(b))] = byte(r.IntN(256))
			answers[wantLoad(t, b[:len(b)-r.IntN(2)*r.IntN(2)*r.IntN(len(b))])]++
		}
	}
	if answers[api.OK] < 2000 || answers[api.ErrImage] < 300 || answers[api.ErrSum] < 300 || answers[api.ErrShort] < 1 {
		t.Errorf("%v", answers)
	}
}

// Rules, memory: the bytes aren't kept, and what is answered twice is no memory of the other one.
func TestLoadMemory(t *testing.T) {
	b := encoded(t, full())
	one, _ := load.Load(b)
	other, _ := load.Load(b)
	clear(b)
	for i := range one.States {
		one.States[i] = api.Row{}
	}
	clear(one.Keys)
	clear(one.Kinds[0])
	clear(one.Codes[5].List)
	if dump(other) != dump(full()) {
		t.Errorf("it became %s", dump(other))
	}
}

// P22.2: of a table that may be run; of a state that there isn't nothing.
func TestPath(t *testing.T) {
	for i, wanted := range [][]int{{0}, {0, 1}, {0, 1, 2}, {3}, {3, 4}} {
		got := load.Path(full(), i)
		if !slices.Equal(got, wanted) {
			t.Errorf("%d: %v, wanted %v", i, got, wanted)
		}
		clear(got[:cap(got)])
		if again := load.Path(full(), i); !slices.Equal(again, wanted) {
			t.Errorf("%d: then %v", i, again)
		}
	}
}

// byParents is the path to i by the chapters' words.
func byParents(x api.Table, i int) []int {
	if i < 0 || i >= len(x.States) {
		return nil
	}
	if parent := x.States[i].Parent; parent >= 0 && parent < i {
		return append(byParents(x, parent), i)
	}
	return []int{i}
}

// P22.2: as layer 14's, whatever the Parents are.
func TestPathRandom(t *testing.T) {
	r := rand.New(rand.NewPCG(22, 4))
	lengths := map[int]int{}
	for range 20000 {
		x, a := api.Table{}, api.Auto{}
		for i := range r.IntN(12) {
			parent := []int{r.IntN(i+4) - 2, i - 1, i - 1, []int{math.MinInt, math.MaxInt, i}[r.IntN(3)]}[r.IntN(4)]
			x.States, a.States = append(x.States, api.Row{Parent: parent, Type: i}), append(a.States, api.State{Parent: parent})
		}
		for _, i := range append([]int{math.MinInt, -1, len(x.States), math.MaxInt}, r.Perm(len(x.States))...) {
			wanted, got := byParents(x, i), load.Path(x, i)
			if !slices.Equal(got, wanted) || !slices.Equal(got, auto.Path(a, i)) {
				t.Fatalf("%d of %+v: %v, wanted %v", i, x, got, wanted)
			}
			lengths[len(got)]++
		}
	}
	if len(lengths) < 9 || lengths[5] < 1000 {
		t.Errorf("%v", lengths)
	}
	long := api.Table{States: make([]api.Row, 1<<20)}
	for i := range long.States {
		long.States[i].Parent = i - 1
	}
	if got := load.Path(long, 1<<20-1); len(got) != 1<<20 || got[0] != 0 || got[77] != 77 {
		t.Errorf("a long one: %d", len(got))
	}
}
