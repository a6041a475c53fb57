package prove_test

import (
	"math/rand/v2"
	"reflect"
	"testing"

	"auspice/api"
	"auspice/image"
	"auspice/load"
	"auspice/prove"
	"auspice/run"
	"auspice/sample"
	"auspice/step"
)

// numbers are all numbers that a thing has.
func numbers(v reflect.Value) []reflect.Value {
	l := []reflect.Value{}
	switch v.Kind() {
	case reflect.Int, reflect.Int64, reflect.Uint64, reflect.Bool:
		l = append(l, v)
	case reflect.Struct:
		for at := range v.NumField() {
			l = append(l, numbers(v.Field(at))...)
		}
	case reflect.Slice:
		for at := range v.Len() {
			l = append(l, numbers(v.Index(at))...)
		}
	}
	return l
}

// spoil changes one number of a thing by a little.
func spoil(r *rand.Rand, v reflect.Value) {
	l := numbers(v)
	if len(l) == 0 {
		return
	}
	switch x := l[r.IntN(len(l))]; x.Kind() {
	case reflect.Bool:
		x.SetBool(!x.Bool())
	case reflect.Uint64:
		x.SetUint(x.Uint() ^ 1)
	default:
		x.SetInt(x.Int() + []int64{-1, 1, 1, 2}[r.IntN(4)])
	}
}

// difference tells where a runner of an image tells another thing than the machine of an automaton, or another number is alive; it is empty, where they go alike. The error at last.
func difference(t *testing.T, s api.Schema, a api.Auto, b []byte, script []api.Event) (string, api.Errno) {
	t.Helper()
	x, err := load.Load(b)
	if err != api.OK {
		t.Fatalf("no image: %d", err)
	}
	r, runErr := run.New(x)
	m, err := step.New(s, a)
	if runErr != api.OK || err != api.OK {
		t.Fatalf("New: %d, %d", runErr, err)
	}
	for i, e := range script {
		wanted, wantedErr := m.Push(e)
		got, err := r.Push(e)
		if err == api.ErrRuns && wantedErr == api.OK && m.Alive() > x.Runs || err == api.ErrCells && wantedErr == api.OK && m.Alive() <= x.Runs && m.Cells() > x.Cells {
			return "", err
		}
		if sample.Lines(got) != sample.Lines(wanted) || err != wantedErr || r.Alive() != m.Alive() || r.Cells() != m.Cells() {
			return dump(script[:i+1]), err
		}
		if err != api.OK {
			return "", err
		}
	}
	if sample.Lines(r.Close()) != sample.Lines(m.Close()) {
		return dump(script), api.OK
	}
	return "", api.OK
}

// P25.3, P25.4, P6: automata and images of which a number may be another one: where an image is found to be the automaton's, it runs alike, event by event.
func TestRunsAlike(t *testing.T) {
	r := rand.New(rand.NewPCG(25, 6))
	m := &sample.Maker{Pick: r.IntN}
	met, errs := map[string]int{}, map[api.Errno]int{}
	for range 30000 {
		a, s := m.Fitting(), sample.Shop()
		x := tableOf(t, coder(r), a)
		for range r.IntN(3) {
			spoil(r, reflect.ValueOf(&x).Elem())
		}
		if r.IntN(9) == 0 {
			spoil(r, reflect.ValueOf(&a).Elem())
		}
		if r.IntN(3) == 0 {
			x.Runs, x.Cells = 1+r.IntN(9), 1+r.IntN(9)
		}
		b, err := image.Encode(x)
		if err != api.OK {
			continue
		}
		valid := prove.Validate(s, a, b)
		if wanted := validByWords(s, a, b); valid != wanted {
			t.Fatalf("%v, wanted %v: %+v\nof %+v", valid, wanted, x, a)
		}
		if _, err := step.New(s, a); load.Verify(x) != api.OK || err != api.OK {
			met["no run"]++
			continue
		}
		script := m.Script(10)
		if len(script) > 0 && r.IntN(9) == 0 {
			script[r.IntN(len(script))].Time += int64(r.IntN(7) - 3)
		}
		where, last := difference(t, s, a, b, script)
		switch {
		case valid && where != "":
			t.Fatalf("over %s: another run: %+v\nof %+v", where, x, a)
		case valid:
			met["valid"]++
			errs[last]++
		case where != "":
			met["another run"]++
		default:
			met["another one"]++
		}
	}
	for _, what := range []string{"no run", "valid", "another run", "another one"} {
		if met[what] < 1000 {
			t.Errorf("%v", met)
		}
	}
	for _, err := range []api.Errno{api.OK, api.ErrTime, api.ErrRuns, api.ErrCells} {
		if errs[err] < 100 {
			t.Errorf("errors %v", errs)
		}
	}
}

// P25.4, P6: what is made of queries, of all levels, is found to be so, and runs alike; an image of another query that is found to be so runs alike too.
func TestQueries(t *testing.T) {
	r := rand.New(rand.NewPCG(25, 7))
	m := &sample.Maker{Pick: r.IntN}
	others, same, not := []api.Auto{}, 0, 0
	for range 4000 {
		a, ok := built(t, m.Query(), r.IntN(4))
		if !ok {
			continue
		}
		b := encoded(t, tableOf(t, coder(r), a))
		if !prove.Validate(sample.Shop(), a, b) {
			t.Fatalf("not valid: %+v", a)
		}
		for i, other := range append([]api.Auto{a}, others...) {
			if !prove.Validate(sample.Shop(), other, b) {
				not++
				continue
			}
			if where, _ := difference(t, sample.Shop(), other, b, m.Script(10)); where != "" {
				t.Fatalf("over %s: another run: %+v", where, other)
			}
			same += min(i, 1)
		}
		if others = append(others, a); len(others) > 20 {
			others = others[1:]
		}
	}
	if same < 30 || not < 20000 {
		t.Errorf("%d are another's, %d not", same, not)
	}
}

// P1: of whatever there may be, Validate ends, and is what the words say.
func TestAnything(t *testing.T) {
	r := rand.New(rand.NewPCG(25, 8))
	o, m := sample.Odd{Pick: r.IntN}, &sample.Maker{Pick: r.IntN}
	for range 5000 {
		a, s := o.Auto(), sample.Shop()
		for range r.IntN(3) {
			spoil(r, reflect.ValueOf(&s).Elem())
		}
		b := encoded(t, tableOf(t, coder(r), m.Fitting()))
		for range r.IntN(3) {
			b[r.IntN(len(b))]++
		}
		if valid := prove.Validate(s, a, b[:len(b)-r.IntN(2)*r.IntN(len(b))]); valid {
			t.Fatalf("valid: %+v", a)
		}
		if n := o.Node(o.Pick(6)); !prove.Alike(n, n) {
			t.Fatalf("%+v: not alike with itself", n)
		}
	}
}

// The rules on memory: what is handed in stays as it is.
func TestNothingIsChanged(t *testing.T) {
	r := rand.New(rand.NewPCG(25, 9))
	m := &sample.Maker{Pick: r.IntN}
	for range 300 {
		a, s := m.Fitting(), sample.Shop()
		b := encoded(t, tableOf(t, coder(r), a))
		b = append(b, 1, 2, 3)[:len(b)]
		before := dump(a) + dump(s) + dump(b[:cap(b)])
		if !prove.Validate(s, a, b) || dump(a)+dump(s)+dump(b[:cap(b)]) != before {
			t.Fatalf("not valid, or changed: %s", before)
		}
	}
}
