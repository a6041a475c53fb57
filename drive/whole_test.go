package drive_test

import (
	"bytes"
	"math/rand/v2"
	"slices"
	"strings"
	"testing"

	"auspice/api"
	"auspice/drive"
	"auspice/event"
	"auspice/image"
	"auspice/lex"
	"auspice/load"
	"auspice/model"
	"auspice/prove"
	"auspice/query"
	"auspice/run"
	"auspice/sample"
	"auspice/step"
	"auspice/wire"
)

// Tests of the document's promises P2 to P8, of the program as a whole.

// misspelt is a query's text of which a few tokens are gone, there twice, at other places, or others.
func misspelt(r *rand.Rand, text string) string {
	l, _, _ := lex.Scan(text)
	words := []string{}
	for _, token := range l {
		words = append(words, lex.Spell(token))
	}
	for range r.IntN(4) * r.IntN(2) {
		at := r.IntN(len(words))
		switch r.IntN(5) {
		case 0:
			words = slices.Delete(words, at, at+1)
		case 1:
			words = slices.Insert(words, at, words[at])
		case 2:
			other := r.IntN(len(words))
			words[at], words[other] = words[other], words[at]
		case 3:
			words[at] = []string{"(", ")", "NOT", "#", "0.5", "1152921504606846977", "9223372036854775808", "TRUE", "i00", "i00 . x", "COUNT", "'ann'", "=", "WHERE", "T0"}[r.IntN(15)]
		case 4:
			words[at] = words[r.IntN(len(words))]
		}
		words = append(words, "")
	}
	return strings.Join(words, " ")
}

// P2: an error just where chapters 5 to 8 have one, or a bound is passed; else an image.
func TestAccepted(t *testing.T) {
	r := rand.New(rand.NewPCG(26, 3))
	errs := map[api.Errno]int{}
	for range 8000 {
		w := newWorld(r)
		text := misspelt(r, w.query())
		b := api.Bounds{Text: 100 + r.IntN(1000), Nodes: r.IntN(30) * r.IntN(8), States: 1 + r.IntN(20), Regs: 2 + r.IntN(15), Runs: 1, Cells: 1}
		b.Nodes = min(b.Nodes, api.MaxNodes)
		for level := range 4 {
			made, at, err := drive.Compile(w.schema, text, level, b)
			errs[err]++
			_, wantedAt, wanted := planned(w.schema, text)
			if len(text) > b.Text {
				wantedAt, wanted = b.Text, api.ErrBound
			} else if wanted == api.OK {
				q, _, _ := query.Parse(text)
				if query.Nodes(q) > b.Nodes || len(built(t, w.schema, text, level).States) > b.States {
					wanted = api.ErrBound
				}
			}
			if at != wantedAt || err != wanted || (err == api.OK) != (len(made) > 0) {
				t.Fatalf("%q, level %d, %+v: %d at %d, %d bytes, wanted %d at %d", text, level, b, err, at, len(made), wanted, wantedAt)
			}
			if err == api.OK {
				loaded(t, made)
			}
		}
	}
	for _, err := range []api.Errno{api.OK, api.ErrName, api.ErrKind, api.ErrToken, api.ErrSyntax, api.ErrPlace, api.ErrBound} {
		if errs[err] < 40 {
			t.Errorf("%v", errs)
		}
	}
}

// wantSteps holds what each event makes an image tell, and what the end does, against the matches of that step.
func wantSteps(t *testing.T, made []byte, script []api.Event, wanted []api.Match) {
	t.Helper()
	r, err := run.New(loaded(t, made))
	if err != api.OK {
		t.Fatalf("New: %d", err)
	}
	for step := range len(script) + 1 {
		told := []api.Match{}
		if step < len(script) {
			told, _ = r.Push(script[step])
		} else {
			told = r.Close()
		}
		now := 0
		for now < len(wanted) && wanted[now].Step == step {
			now++
		}
		if sample.Lines(told) != sample.Lines(wanted[:now]) {
			t.Fatalf("over %v, at %d: %s, wanted %s", script, step, sample.Lines(told), sample.Lines(wanted[:now]))
		}
		wanted = wanted[now:]
	}
}

// P3, P6, P7: queries of all sorts, of all levels, with few registers or many: an image is what its automaton is, and tells what layer 11 says.
func TestMatches(t *testing.T) {
	r := rand.New(rand.NewPCG(26, 4))
	found := map[int]int{}
	for range 3000 {
		w := newWorld(r)
		text := w.query()
		p, _, err := planned(w.schema, text)
		if err != api.OK {
			continue
		}
		script := w.script(11)
		wanted, at, err := model.Matches(w.schema, p, script)
		if at != 0 || err != api.OK && err != api.ErrFull {
			t.Fatalf("Matches: %d at %d", err, at)
		}
		if err == api.ErrFull {
			continue
		}
		found[p.Strategy] += len(wanted)
		for level := range 4 {
			b := most()
			b.Regs = 2 + r.IntN(5)
			made := wantImage(t, w.schema, text, level, b)
			got, at, err := drive.Run(made, script)
			if at != 0 || err != api.OK || sample.Lines(got) != sample.Lines(wanted) {
				t.Fatalf("%+v, %s, level %d, over %v: %s, %d at %d, wanted %s", w.schema, text, level, script, sample.Lines(got), err, at, sample.Lines(wanted))
			}
			wantLines(t, text, drive.Session(w.schema, text, level, b, linesOf(w.schema, script)), matchLines(wanted, 0, api.OK))
			wantSteps(t, made, script, wanted)
		}
	}
	for strategy := api.Strict; strategy <= api.Any; strategy++ {
		if found[strategy] < 2000 {
			t.Errorf("there are %v matches", found)
		}
	}
}

// faulty changes an event of a script, or none.
func faulty(w *world, script []api.Event) []api.Event {
	if len(script) == 0 || w.IntN(2) == 0 {
		return script
	}
	e := &script[w.IntN(len(script))]
	switch w.IntN(4) {
	case 0:
		e.Type = []int{-1, len(w.schema.Types), 99}[w.IntN(3)]
	case 1:
		e.Time += int64(w.IntN(9) - 4)
	case 2:
		e.Attrs = append(e.Attrs, sample.Int(1))
	case 3:
		for i := range e.Attrs {
			e.Attrs[i].Kind = 1 + w.IntN(5)
		}
	}
	return script
}

// firstFault is the place of the first event that is wrong, or behind which too much of an automaton is alive, and what is wrong; without one all events are right.
func firstFault(t *testing.T, s api.Schema, a api.Auto, b api.Bounds, script []api.Event) (int, api.Errno) {
	t.Helper()
	m, err := step.New(s, a)
	if err != api.OK {
		t.Fatalf("New: %d", err)
	}
	for at, e := range script {
		switch {
		case !event.Valid(s, e):
			return at, api.ErrEvent
		case at > 0 && e.Time < script[at-1].Time:
			return at, api.ErrTime
		}
		m.Push(e)
		switch {
		case m.Alive() > b.Runs:
			return at, api.ErrRuns
		case m.Cells() > b.Cells:
			return at, api.ErrCells
		}
	}
	return len(script), api.OK
}

// P4: at the first fault that error, and its place; ahead of it what layer 11 says of the events ahead, and nothing behind it.
func TestLatched(t *testing.T) {
	r := rand.New(rand.NewPCG(26, 5))
	errs, told := map[api.Errno]int{}, 0
	for range 6000 {
		w := newWorld(r)
		text, level := w.query(), r.IntN(4)
		p, _, err := planned(w.schema, text)
		if err != api.OK {
			continue
		}
		script := faulty(w, w.script(12))
		b := api.Bounds{Text: api.MaxText, Nodes: api.MaxNodes, States: api.MaxStates, Regs: 2, Runs: 1 + r.IntN(20), Cells: 1 + r.IntN(20)}
		wantedAt, wantedErr := firstFault(t, w.schema, built(t, w.schema, text, level), b, script)
		wanted, _, err := model.Matches(w.schema, p, script[:wantedAt])
		if err != api.OK {
			continue
		}
		if wantedErr != api.OK { // what is told at the end of the events ahead isn't told, since they don't end there
			wanted = slices.DeleteFunc(wanted, func(m api.Match) bool { return m.Step == wantedAt })
		} else {
			wantedAt = 0
		}
		errs[wantedErr]++
		got, at, err := drive.Run(compiled(t, w.schema, text, level, b), script)
		if at != wantedAt || err != wantedErr || sample.Lines(got) != sample.Lines(wanted) {
			t.Fatalf("%+v, %s, level %d, %+v, over %v: %s, %d at %d, wanted %s, %d at %d", w.schema, text, level, b, script, sample.Lines(got), err, at, sample.Lines(wanted), wantedErr, wantedAt)
		}
		if wantedErr != api.OK {
			told += len(got)
		}
		wantLines(t, text, drive.Session(w.schema, text, level, b, linesOf(w.schema, script)), matchLines(wanted, wantedAt, wantedErr))
	}
	for _, err := range []api.Errno{api.OK, api.ErrEvent, api.ErrTime, api.ErrRuns, api.ErrCells} {
		if errs[err] < 100 {
			t.Errorf("%v", errs)
		}
	}
	if told < 1000 {
		t.Errorf("%d are told ahead of errors", told)
	}
}

// summed is an image with the sum that fits it.
func summed(b []byte) []byte {
	b = b[:max(0, len(b)-4)]
	sum := wire.Sum(b)
	return append(slices.Clone(b), byte(sum), byte(sum>>8), byte(sum>>16), byte(sum>>24))
}

// changed is an image with other bytes, some more or some fewer.
func changed(r *rand.Rand, b []byte) []byte {
	b = slices.Clone(b)
	for range 1 + r.IntN(3) {
		at := r.IntN(len(b))
		switch r.IntN(6) {
		case 0:
			b = slices.Insert(b, at, byte(r.IntN(8)))
		case 1:
			b = slices.Delete(b, at, at+1)
		case 2:
			b[at] = byte(r.IntN(256))
		default:
			b[at] += byte(2 * (r.IntN(3) - 1))
		}
	}
	if r.IntN(20) > 0 {
		b = summed(b)
	}
	return b
}

// wantWithin runs a table: it stays within the numbers that it declares. How many matches are told.
func wantWithin(t *testing.T, x api.Table, script []api.Event) int {
	t.Helper()
	r, err := run.New(x)
	if err != api.OK {
		t.Fatalf("New: %d: %+v", err, x)
	}
	told := 0
	for _, e := range script {
		l, _ := r.Push(e)
		told += len(l)
		if r.Alive() > x.Runs || r.Cells() > x.Cells {
			t.Fatalf("%+v over %v: %d, %d alive", x, script, r.Alive(), r.Cells())
		}
	}
	return told + len(r.Close())
}

// P5, P6: lists of bytes near images: refused, or the one list of bytes of a table that may be run, which stays within its bounds; one that is found to be the automaton's tells what layer 11 says.
func TestLoaded(t *testing.T) {
	r := rand.New(rand.NewPCG(26, 6))
	met, told := map[api.Errno]int{}, 0
	valid := 0
	for range 2000 {
		w := newWorld(r)
		text, level := w.query(), r.IntN(4)
		p, _, err := planned(w.schema, text)
		if err != api.OK {
			continue
		}
		b := most()
		b.Regs, b.Runs, b.Cells = 3, 1+r.IntN(60), 1+r.IntN(60)
		made, a := compiled(t, w.schema, text, level, b), built(t, w.schema, text, level)
		for range 12 {
			other, script := changed(r, made), w.script(10)
			x, err := load.Load(other)
			met[err]++
			got, at, ranErr := drive.Run(other, script)
			if err != api.OK {
				wantRefused(t, "not loaded", got, at, ranErr, 0, err)
				continue
			}
			if again, err := image.Encode(x); err != api.OK || !bytes.Equal(again, other) {
				t.Fatalf("% x is % x too: %d", other, again, err)
			}
			told += wantWithin(t, x, script)
			wanted, _, err := model.Matches(w.schema, p, script)
			if err == api.OK && ranErr == api.OK && prove.Validate(w.schema, a, other) {
				valid++
				if sample.Lines(got) != sample.Lines(wanted) {
					t.Fatalf("%s over %v: %s, wanted %s", text, script, sample.Lines(got), sample.Lines(wanted))
				}
			}
		}
	}
	if met[api.OK] < 2000 || met[api.ErrImage] < 3000 || met[api.ErrSum] < 300 || told < 3000 || valid < 300 {
		t.Errorf("%v, %d are told, %d are valid", met, told, valid)
	}
}

// P5: any bytes.
func TestAnyBytes(t *testing.T) {
	r := rand.New(rand.NewPCG(26, 7))
	for range 20000 {
		b := make([]byte, r.IntN(60))
		for i := range b {
			b[i] = byte(r.IntN(256) >> r.IntN(8))
		}
		copy(b, "AUSP"[:min(4, r.IntN(9))])
		if r.IntN(4) > 0 {
			b = summed(b)
		}
		if x, err := load.Load(b); err == api.OK {
			wantWithin(t, x, nil)
		}
		told, at, err := drive.Run(b, sample.Events("C 0|C 1"))
		if err == api.ErrEvent || err == api.OK {
			continue
		}
		wantRefused(t, "any bytes", told, at, err, 0, err)
	}
}

// near is how many events at most lie within an automaton's windows.
func near(a api.Auto, script []api.Event) int {
	window, k := int64(0), 0
	for _, s := range a.States {
		window = max(window, s.Window)
	}
	for i := range script {
		for j := i; j < len(script) && script[j].Time-script[i].Time <= window; j++ {
			k = max(k, j-i+1)
		}
	}
	return k
}

// P8: of one stream no more is alive than Most says, but under ANY.
func TestFew(t *testing.T) {
	r := rand.New(rand.NewPCG(26, 8))
	half := 0
	for range 12000 {
		w := newWorld(r)
		text, level := strings.Replace(w.query(), "STRATEGY ANY", "STRATEGY NEXT", 1), r.IntN(4)
		if _, _, err := planned(w.schema, text); err != api.OK {
			continue
		}
		a, script := built(t, w.schema, text, level), w.script(14)
		stream := []api.Event{}
		if len(script) > 0 {
			for _, at := range model.Stream(a.Keys, script, w.IntN(len(script))) {
				stream = append(stream, script[at])
			}
		}
		x, err := run.New(loaded(t, compiled(t, w.schema, text, level, most())))
		if err != api.OK {
			t.Fatalf("New: %d", err)
		}
		bound := step.Most(a, near(a, stream))
		for i, e := range stream {
			if _, err := x.Push(e); err != api.OK || x.Alive() > bound {
				t.Fatalf("%s, level %d, over %v, at %d: %d, %d alive, wanted %d at most", text, level, stream, i, err, x.Alive(), bound)
			}
			if 2*x.Alive() >= bound {
				half++
			}
		}
	}
	if half < 200 {
		t.Errorf("the bound is near %d times", half)
	}
}
