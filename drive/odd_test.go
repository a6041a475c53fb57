package drive_test

import (
	"math"
	"math/rand/v2"
	"strings"
	"testing"

	"auspice/api"
	"auspice/drive"
	"auspice/prove"
	"auspice/sample"
)

// oddSchema is a schema of which a thing is otherwise than it may be, now and then.
func oddSchema(w *world, o sample.Odd) api.Schema {
	s := w.schema
	switch w.IntN(8) {
	case 0:
		s.Types = nil
	case 1:
		s.Types[w.IntN(len(s.Types))].Fields = make([]api.Field, w.IntN(11))
	case 2:
		s.Types[w.IntN(len(s.Types))].Name = w.oneOf("", "T0", "T1", "SEQ", strings.Repeat("a", 25), "\xff")
	case 3:
		s.Types = append(s.Types, make([]api.Type, w.IntN(20))...)
	case 4:
		s.Syms = append(s.Syms, make([]string, w.IntN(70))...)
	case 5:
		for i := range s.Types {
			for j := range s.Types[i].Fields {
				s.Types[i].Fields[j].Kind = o.Number()
			}
		}
	}
	return s
}

// oddText is a query's text, or anything.
func oddText(w *world) string {
	text := w.query()
	switch w.IntN(4) {
	case 0:
		return misspelt(w.Rand, text)
	case 1:
		b := []byte(text)
		for range w.IntN(4) {
			b[w.IntN(len(b))] = byte(w.IntN(256))
		}
		return string(b[:w.IntN(len(b)+1)])
	case 2:
		return strings.Repeat(text, w.IntN(50))
	}
	return text
}

// oddEvents are a script in which any number may be any other.
func oddEvents(w *world, o sample.Odd) []api.Event {
	l := w.script(8)
	for range w.IntN(4) * min(1, len(l)) {
		e := &l[w.IntN(len(l))]
		switch w.IntN(5) {
		case 0:
			e.Type = o.Number()
		case 1:
			e.Time = int64(o.Number())
		case 2:
			e.Attrs = nil
		case 3:
			e.Attrs = make([]api.Value, w.IntN(11))
		case 4:
			for i := range e.Attrs {
				e.Attrs[i] = api.Value{Kind: o.Number(), Bits: w.Uint64()}
			}
		}
	}
	return l
}

// P1: every call ends and none panics, whatever it is handed; nothing stands beside an error but what the chapter says.
func TestAnything(t *testing.T) {
	r := rand.New(rand.NewPCG(26, 10))
	o := sample.Odd{Pick: r.IntN}
	errs := map[api.Errno]int{}
	for range 6000 {
		w := newWorld(r)
		text := oddText(w)
		s, level, b := oddSchema(w, o), o.Number(), most()
		if r.IntN(3) == 0 {
			b = api.Bounds{Text: o.Number(), Nodes: o.Number(), States: o.Number(), Regs: o.Number(), Runs: o.Number(), Cells: o.Number()}
		}
		script := oddEvents(w, o)
		a, at, err := drive.Auto(s, text, level)
		if err != api.OK {
			wantRefused(t, text, a, at, err, at, err)
		}
		made, at, err := drive.Compile(s, text, level, b)
		errs[err]++
		lines := append(linesOf(s, script), "Buy", "")
		if err != api.OK {
			wantRefused(t, text, made, at, err, at, err)
			wantLines(t, text, drive.Session(s, text, level, b, lines), matchLines(nil, at, err))
		}
		drive.Run(made, script)
		drive.Session(s, text, level, b, lines)
		prove.Validate(s, a, made)
		if len(made) > 0 {
			drive.Run(changed(r, made), script)
		}
	}
	for _, err := range []api.Errno{api.OK, api.ErrArg, api.ErrLong, api.ErrName, api.ErrKind, api.ErrToken, api.ErrSyntax, api.ErrBound} {
		if errs[err] < 10 {
			t.Errorf("%v", errs)
		}
	}
}

// P1: texts that are very long, or very deep; times and numbers at their ends.
func TestEnds(t *testing.T) {
	for _, text := range []string{strings.Repeat("(", 4000), "PATTERN SEQ(C a) WHERE " + strings.Repeat("-", 3900), strings.Repeat("NOT ", 1<<20), strings.Repeat("\x00", 1<<20)} {
		for level := range 4 {
			if _, _, err := drive.Compile(sample.Shop(), text, level, most()); err == api.OK {
				t.Errorf("%.40q is a query", text)
			}
			if _, _, err := drive.Auto(sample.Shop(), text, level); err == api.OK {
				t.Errorf("%.40q is a query", text)
			}
		}
	}
	l := []api.Event{}
	for i, n := range []int64{math.MinInt64, -1, math.MaxInt64, 0} {
		time := []int64{0, api.MaxTime - 1, api.MaxTime, api.MaxTime}[i]
		l = append(l, api.Event{Time: time, Attrs: []api.Value{sample.Sym(0), sample.Int(n), sample.Real(0), sample.Bool(0)}})
	}
	for condition, wanted := range map[string]string{
		"b.TIME - a.TIME < 1152921504606846976":  "1 0: 0; 1|2 0: 1; 2|3 0: 1; 2 3|3 0: 1; 3|3 0: 2; 3",
		"b.TIME - a.TIME >= 1152921504606846976": "2 0: 0; 2|3 0: 0; 2 3|3 0: 0; 3",
		"a.x / b.x = a.x / b.x":                  "2 0: 0; 2|2 0: 1; 2",
		"a.x - b.x < 9223372036854775807":        "1 0: 0; 1|2 0: 1; 2|3 0: 0; 1 3|3 0: 0; 3|3 0: 1; 2 3|3 0: 1; 3",
	} {
		text := "PATTERN SEQ(A a, !C n, A+ b) WHERE " + condition + " STRATEGY ANY WITHIN 1152921504606846976"
		wantSession(t, sample.Shop(), text, most(), linesOf(sample.Shop(), l), wanted)
	}
}
