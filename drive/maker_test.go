package drive_test

import (
	"math"
	"math/rand/v2"
	"slices"
	"strconv"
	"strings"

	"auspice/api"
	"auspice/sample"
)

// world is a schema made at random, by which queries and scripts are made.
type world struct {
	*rand.Rand
	schema api.Schema
	all    [][]api.Item // of the query that is made, branch by branch
}

// newWorld has types of which some have attributes of the same name, of the same kind or of others.
func newWorld(r *rand.Rand) *world {
	w := &world{Rand: r, schema: api.Schema{Syms: []string{"ann", "bob", "cid"}[:1+r.IntN(3)]}}
	for i := range 1 + r.IntN(3) {
		t := api.Type{Name: "T" + strconv.Itoa(i)}
		for _, name := range []string{"k", "x", "y", "z"} {
			kinds := []int{api.Int, api.Int, api.Int, api.Real, api.Bool, api.Sym}
			if name == "k" && r.IntN(3) > 0 {
				kinds = kinds[:1]
			}
			if r.IntN(4) > 0 {
				t.Fields = append(t.Fields, api.Field{Name: name, Kind: kinds[r.IntN(len(kinds))]})
			}
		}
		w.schema.Types = append(w.schema.Types, t)
	}
	return w
}

func (w *world) oneOf(l ...string) string {
	return l[w.IntN(len(l))]
}

// few is a number below n, small as a rule.
func (w *world) few(n int) int {
	return min(w.IntN(n), w.IntN(n))
}

// query is one that is accepted as a rule.
func (w *world) query() string {
	w.all = nil
	branches, asked := []string{}, []string{}
	for b := range 1 + w.few(api.MaxBranches) {
		items := []string{}
		w.all = append(w.all, nil)
		for i := range 1 + w.few(6) {
			items = append(items, w.item(b, i))
		}
		branches = append(branches, "SEQ("+strings.Join(items, ", ")+")")
		for range w.few(5) {
			asked = append(asked, w.condition(b))
		}
	}
	w.Shuffle(len(asked), func(i, j int) { asked[i], asked[j] = asked[j], asked[i] })
	text := "PATTERN " + strings.Join(branches, " | ")
	if len(asked) > 0 {
		text += " WHERE " + strings.Join(asked, " AND ")
	}
	text += " STRATEGY " + w.oneOf("STRICT", "NEXT", "ANY") + " WITHIN " + strconv.Itoa(w.IntN(8))
	if w.IntN(4) == 0 {
		text += " PARTITION BY " + w.oneOf("k", "k", "x", "y")
	}
	return text
}

func (w *world) item(b, i int) string {
	x := api.Item{Form: []int{api.One, api.One, api.Many, api.Many, api.Not}[w.IntN(5)], Type: w.schema.Types[w.few(len(w.schema.Types))].Name, Name: "i" + strconv.Itoa(b) + strconv.Itoa(i)}
	if i == 0 && x.Form == api.Not {
		x.Form = api.One
	}
	w.all[b] = append(w.all[b], x)
	return [...]string{api.Not: "!"}[x.Form] + x.Type + [...]string{api.Many: "+", api.Not: ""}[x.Form] + " " + x.Name
}

// sight is what a condition may name.
type sight struct {
	items []api.Item // the last one is that with which it is put
	asks  bool       // single events of that one
}

// condition is one that may be put with an item of a branch, as a rule.
func (w *world) condition(b int) string {
	at := w.IntN(len(w.all[b]))
	s := sight{asks: w.all[b][at].Form == api.Not || w.IntN(2) == 0}
	for i, x := range w.all[b][:at+1] {
		if x.Form != api.Not || i == at {
			s.items = append(s.items, x)
		}
	}
	if w.IntN(25) == 0 { // of other branches too, or of several Nots: this may be no place for it
		s.items = slices.Concat(w.all[w.IntN(len(w.all))], s.items, w.all[b])
	}
	switch w.IntN(8) {
	case 0:
		first := s.items[0].Name + ".TIME"
		if s.items[0].Form == api.Many {
			first = "FIRST(" + first + ")"
		}
		return s.items[len(s.items)-1].Name + ".TIME - " + first + w.oneOf(" <= ", " < ", " > ") + strconv.Itoa(w.IntN(6))
	case 1, 2:
		return w.expr(s, api.Bool, 3)
	}
	kind := []int{api.Int, api.Int, api.Real, api.Bool, api.Sym}[w.IntN(5)]
	signs := []string{" != ", " = ", " <= ", " >= ", " < "}
	if kind == api.Bool || kind == api.Sym {
		signs = signs[:2]
	}
	return w.expr(s, kind, 1) + w.oneOf(signs...) + w.expr(s, kind, 1)
}

// expr is an expression of that kind, in brackets where it is none alone.
func (w *world) expr(s sight, kind, deep int) string {
	if deep == 0 || w.IntN(3) == 0 {
		return w.leaf(s, kind)
	}
	below := func(kind int) string { return w.expr(s, kind, deep-1) }
	text := ""
	switch kind {
	case api.Sym:
		return w.leaf(s, kind)
	case api.Int:
		text = w.oneOf("-"+below(kind), below(kind)+w.oneOf(" + ", " - ", " * ", " / ", " % ")+below(kind))
	case api.Real:
		text = w.oneOf("-"+below(kind), "REAL("+below(api.Int)+")", below(kind)+w.oneOf(" + ", " - ", " * ", " / ")+below(kind))
	case api.Bool:
		number := api.Int + 3*w.IntN(2)
		text = w.oneOf("NOT "+below(kind), "ISNAN("+below(api.Real)+")", below(kind)+w.oneOf(" AND ", " OR ", " OR ", " = ")+below(kind),
			below(number)+w.oneOf(" < ", " <= ", " > ", " >= ", " = ", " != ")+below(number), below(api.Sym)+" != "+below(api.Sym))
	}
	return "(" + text + ")"
}

// leaf is what an item has of that kind, or a literal.
func (w *world) leaf(s sight, kind int) string {
	for range 4 {
		at := w.IntN(len(s.items))
		x := s.items[at]
		if w.IntN(2) == 0 {
			at = len(s.items) - 1
			x = s.items[at]
		}
		bare := x.Form != api.Many || s.asks && at == len(s.items)-1 && w.IntN(3) > 0
		if x.Form == api.Many && kind == api.Int && w.IntN(4) == 0 {
			return "COUNT(" + x.Name + ")"
		}
		fields := w.fields(x.Type, kind)
		if len(fields) == 0 {
			continue
		}
		field := x.Name + "." + w.oneOf(fields...)
		if bare {
			return field
		}
		ops := []string{"FIRST", "LAST", "SUM", "MIN", "MAX", "MEAN"}
		switch kind {
		case api.Int:
			ops = ops[:5]
		case api.Bool, api.Sym:
			ops = ops[:2]
		}
		return w.oneOf(ops...) + "(" + field + ")"
	}
	return w.literal(kind)
}

// fields are those of that kind that events of a type have.
func (w *world) fields(name string, kind int) []string {
	l := []string{}
	if kind == api.Int && w.IntN(4) == 0 {
		l = append(l, "TIME")
	}
	for _, t := range w.schema.Types {
		for _, f := range t.Fields {
			if t.Name == name && f.Kind == kind {
				l = append(l, f.Name)
			}
		}
	}
	return l
}

func (w *world) literal(kind int) string {
	switch kind {
	case api.Int:
		return w.oneOf("0", "1", "2", "2", "3", "9223372036854775807")
	case api.Real:
		return w.oneOf("0.0", "0.5", "1.0", "1.50")
	case api.Bool:
		return w.oneOf("TRUE", "TRUE", "FALSE")
	}
	return "'" + w.schema.Syms[w.IntN(len(w.schema.Syms))] + "'"
}

// script is of fewer events than that, of few values.
func (w *world) script(below int) []api.Event {
	l, time := []api.Event{}, int64(w.IntN(3))
	for range w.IntN(below) {
		time += int64(w.IntN(3) * w.IntN(2))
		e := api.Event{Type: w.few(len(w.schema.Types)), Time: time}
		for _, f := range w.schema.Types[e.Type].Fields {
			e.Attrs = append(e.Attrs, w.value(f.Kind))
		}
		l = append(l, e)
	}
	return l
}

func (w *world) value(kind int) api.Value {
	switch kind {
	case api.Int:
		if w.IntN(40) == 0 {
			return sample.Int([]int64{math.MinInt64, math.MaxInt64, -1}[w.IntN(3)])
		}
		return sample.Int(int64(w.IntN(3)))
	case api.Real:
		return sample.Real([]uint64{0, sample.SignBit, sample.One, sample.One, 0x3fe0000000000000, sample.NaN, sample.Infinite}[w.IntN(7)])
	case api.Bool:
		return sample.Bool(uint64(w.IntN(2)))
	}
	return sample.Sym(uint64(w.few(len(w.schema.Syms))))
}
