package run_test

import (
	"math/rand/v2"
	"reflect"
	"runtime"
	"slices"
	"strings"
	"testing"

	"auspice/api"
	"auspice/run"
	"auspice/sample"
)

// overwrite changes all numbers that a thing has, and all its lists have room for.
func overwrite(v reflect.Value) {
	switch v.Kind() {
	case reflect.Int, reflect.Int64:
		v.SetInt(99)
	case reflect.Uint64:
		v.SetUint(99)
	case reflect.Bool:
		v.SetBool(!v.Bool())
	case reflect.Struct:
		for at := range v.NumField() {
			overwrite(v.Field(at))
		}
	case reflect.Slice:
		l := v.Slice(0, v.Cap())
		for at := range l.Len() {
			overwrite(l.Index(at))
		}
	}
}

// roomy puts room that isn't empty behind all lists of a thing.
func roomy(v reflect.Value) {
	switch v.Kind() {
	case reflect.Struct:
		for at := range v.NumField() {
			roomy(v.Field(at))
		}
	case reflect.Slice:
		l := reflect.MakeSlice(v.Type(), v.Len()+2, v.Len()+2)
		reflect.Copy(l, v)
		overwrite(l.Slice(v.Len(), v.Len()+2))
		for at := range v.Len() {
			roomy(l.Index(at))
		}
		v.Set(l.Slice(0, v.Len()))
	}
}

// all are the things of a thing's lists, one behind the other, with those that there is room for.
func all(v reflect.Value) string {
	text := ""
	switch v.Kind() {
	case reflect.Struct:
		for at := range v.NumField() {
			text += all(v.Field(at))
		}
	case reflect.Slice:
		l := v.Slice(0, v.Cap())
		text = dump(l.Interface())
		for at := range l.Len() {
			text += all(l.Index(at))
		}
	}
	return text
}

// rooms are the addresses of all that matches have room for.
func rooms(l []api.Match) []any {
	addresses := sample.Addresses(l)
	for _, m := range l {
		addresses = append(addresses, sample.Addresses(m.Parts)...)
		for _, part := range m.Parts {
			addresses = append(addresses, sample.Addresses(part)...)
		}
	}
	return addresses
}

// The rules on memory: what is handed in stays as it is, spare room included, and nothing of it is kept; nothing that is answered is kept, nor shared: all of it is overwritten behind each call.
func TestNothingIsKept(t *testing.T) {
	m := &sample.Maker{Pick: rand.New(rand.NewPCG(24, 5)).IntN}
	for range 3000 {
		a, l := m.Fitting(), m.Script(10)
		x := tableOf(t, a, m.Pick(2) == 0, 2+m.Pick(3))
		wanted := whole(t, x, l)
		own := reflect.ValueOf(&x).Elem()
		roomy(own)
		before := dump(x) + all(own)
		r := runner(t, x)
		if dump(x)+all(own) != before {
			t.Fatalf("New changes %s", before)
		}
		overwrite(own)
		told, answers := []string{}, [][]any{}
		take := func(l []api.Match) {
			if len(l) > 0 {
				told = append(told, sample.Lines(l))
			}
			answers = append(answers, rooms(l))
			overwrite(reflect.ValueOf(&l).Elem())
		}
		for _, e := range l {
			own := reflect.ValueOf(&e).Elem()
			roomy(own)
			before := dump(e) + all(own)
			l, err := r.Push(e)
			if err != api.OK || dump(e)+all(own) != before {
				t.Fatalf("Push: %d, %s", err, before)
			}
			overwrite(own)
			take(l)
		}
		take(r.Close())
		if got := strings.Join(told, "|"); got != wanted {
			t.Fatalf("%s over %v: %s, wanted %s", dump(a), l, got, wanted)
		}
		if !sample.Once(answers...) {
			t.Fatalf("%s over %v: answers share memory", dump(a), l)
		}
	}
}

// whole is all that is told of a script, a closing behind it included.
func whole(t *testing.T, x api.Table, l []api.Event) string {
	t.Helper()
	r, told := runner(t, x), []api.Match{}
	for _, e := range l {
		l, err := r.Push(e)
		if err != api.OK {
			t.Fatalf("%d: %+v", err, x)
		}
		told = append(told, l...)
	}
	return sample.Lines(append(told, r.Close()...))
}

// What is answered hangs on what a runner was told alone: two go side by side.
func TestTwoRunners(t *testing.T) {
	m := &sample.Maker{Pick: rand.New(rand.NewPCG(24, 6)).IntN}
	for range 2000 {
		x, y, l := tableOf(t, m.Fitting(), true, 2), tableOf(t, m.Fitting(), true, 2), m.Script(10)
		alone, r := []string{}, runner(t, x)
		for _, e := range l {
			alone = append(alone, pushed(t, r, e)+state(r))
		}
		r, other := runner(t, x), runner(t, y)
		for i, e := range l {
			pushed(t, other, e)
			if got := pushed(t, r, e) + state(r); got != alone[i] {
				t.Fatalf("%+v over %v, at %d: %s, wanted %s", x, l, i, got, alone[i])
			}
		}
	}
}

// heap is how many bytes are held.
func heap() int64 {
	var is runtime.MemStats
	runtime.GC()
	runtime.ReadMemStats(&is)
	return int64(is.HeapAlloc)
}

// What is kept is what is alive: of events that are in no binding nothing.
func TestEventsAreLeft(t *testing.T) {
	r := runner(t, made(t, "PATTERN SEQ(A+ a, !C n, B b) WHERE a.x = 1 AND b.x = 1 AND COUNT(a) < 9 STRATEGY ANY WITHIN 1000000"))
	pushed(t, r, one(t, "A 0 ann 1"))
	before := heap()
	for i := range 100000 {
		e := one(t, []string{"A 0", "B 0", "C 0"}[i%3])
		if got := pushed(t, r, e); got != "" || state(r) != "1 1" {
			t.Fatalf("%s, %s alive", got, state(r))
		}
	}
	if after := heap(); after > before+4<<20 {
		t.Errorf("%d bytes are kept", after-before)
	}
	runtime.KeepAlive(r)
}

// What is no more is let go, spare room included.
func TestPastIsLeft(t *testing.T) {
	x := made(t, "PATTERN SEQ(C+ a) WHERE COUNT(a) = 99 STRATEGY ANY WITHIN 5")
	x.Runs = 1 << 15
	for _, c := range []struct {
		last  func(r *run.Runner)
		share int64 // of each hundred bytes, room for others to come aside
	}{
		{func(r *run.Runner) { r.Push(api.Event{Type: 2, Time: 9}) }, 85}, // which goes on
		{func(r *run.Runner) { r.Push(api.Event{Type: 2, Time: -1}) }, 5},
		{func(r *run.Runner) { r.Push(api.Event{Type: 2}) }, 5}, // too many
		{func(r *run.Runner) { r.Close() }, 5},
	} {
		r := runner(t, x)
		before := heap()
		for range 15 {
			pushed(t, r, api.Event{Type: 2})
		}
		if r.Alive() != 1<<15-1 {
			t.Fatalf("%d are alive", r.Alive())
		}
		most := heap()
		c.last(r)
		if after := heap(); (after-before)*100 > (most-before)*c.share {
			t.Errorf("%d bytes are kept of %d", after-before, most-before)
		}
		runtime.KeepAlive(r)
	}
}

// Rows share what they have in common: what is kept grows with the cells, not with how many events all rows have together.
func TestRowsAreShared(t *testing.T) {
	x := made(t, "PATTERN SEQ(A+ a, B b) WHERE (COUNT(a) = a.x OR COUNT(a) = a.x) STRATEGY ANY WITHIN 5")
	r := runner(t, x)
	before := heap()
	const long = 3000
	for i := range long { // each is taken by the row that has all ahead of it
		e := one(t, "A 0")
		e.Attrs[1] = sample.Int(int64(i))
		pushed(t, r, e)
	}
	if r.Alive() != long || r.Cells() != long {
		t.Fatalf("%s alive", state(r))
	}
	if after := heap(); after-before > 4<<20 {
		t.Errorf("%d bytes are kept", after-before)
	}
	runtime.KeepAlive(r)
}

// A row that goes on for long, of as many cells as may be.
func TestLongRow(t *testing.T) {
	x := made(t, "PATTERN SEQ(C+ a, A b) WHERE (a.TIME = 0 OR COUNT(a) > 0) AND COUNT(a) > 99998 STRATEGY NEXT WITHIN 9")
	r := runner(t, x)
	for i := range api.MaxLive {
		e := api.Event{Type: 2, Time: int64(min(i, 1))}
		if l, err := r.Push(e); len(l) > 0 || err != api.OK || r.Alive() != 1 || r.Cells() != i+1 {
			t.Fatalf("at %d: %s, %d, %s alive", i, sample.Lines(l), err, state(r))
		}
	}
	l, err := r.Push(one(t, "A 2"))
	if err != api.OK || len(l) != 1 || len(l[0].Parts) != 2 || len(l[0].Parts[0]) != api.MaxLive || l[0].Parts[1][0] != api.MaxLive || state(r) != "0 0" {
		t.Fatalf("%d matches, %d, %s alive", len(l), err, state(r))
	}
	for i, place := range l[0].Parts[0] {
		if place != i {
			t.Fatalf("the place %d at %d", place, i)
		}
	}
}

// P24.2: as much room as may be.
func TestManyRuns(t *testing.T) {
	r := runner(t, made(t, "PATTERN SEQ(C+ a, A b) STRATEGY ANY WITHIN 9"))
	for i := range 16 {
		pushed(t, r, one(t, "C 0"))
		if r.Alive() != 2<<i-1 || r.Cells() != 2<<i-1 {
			t.Fatalf("behind %d: %s alive", i, state(r))
		}
	}
	wantRefused(t, "the next one", r, one(t, "C 0"), api.ErrRuns)
	wantLatched(t, "the next one", r, 16, api.ErrRuns)
}

// P5: a state of very many Ends makes no more waits than it takes to be too many, be it of one event or of several.
func TestVeryManyEnds(t *testing.T) {
	x := api.Table{Strategy: api.Any, Kinds: [][]int{nil, nil}, Runs: 5, Cells: 5, States: []api.Row{{Parent: -1, Many: true, Window: 9, Leave: -1, Guard: -1}}}
	x.States[0].Ends = slices.Repeat([]api.Tail{{Close: -1, Bars: []api.Stop{{Type: 1, Guard: -1}}}}, 1<<20)
	r := runner(t, x)
	var before, behind runtime.MemStats
	runtime.ReadMemStats(&before)
	wantRefused(t, "very many", r, api.Event{}, api.ErrRuns)
	runtime.ReadMemStats(&behind)
	if made := behind.TotalAlloc - before.TotalAlloc; made > 1<<20 {
		t.Errorf("%d bytes are made", made)
	}
	wantLatched(t, "very many", r, 0, api.ErrRuns, api.Event{}, api.Event{Type: 1})
	x.States[0].Ends = x.States[0].Ends[:4]
	r = runner(t, x)
	if got := pushed(t, r, api.Event{}); got != "" || state(r) != "5 1" {
		t.Errorf("%s, %s alive", got, state(r))
	}
	if got := pushed(t, r, api.Event{Type: 1}); got != "" || state(r) != "1 1" {
		t.Errorf("%s, %s alive", got, state(r))
	}
	wantRefused(t, "one more", r, api.Event{}, api.ErrRuns)
}
