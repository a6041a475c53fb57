package model_test

import (
	"fmt"
	"math/rand/v2"
	"slices"
	"strings"
	"testing"

	"auspice/api"
	"auspice/eval"
	"auspice/match"
	"auspice/model"
	"auspice/sample"
	"auspice/value"
)

// oracle says of a branch's bindings what the chapter says, rule by rule, each rule of the whole binding.
type oracle struct {
	p      api.Plan
	b      api.Branch
	script []api.Event
}

// key is an event's; false: it has none.
func (o oracle) key(place int) (api.Value, bool) {
	e := o.script[place]
	if len(o.p.Keys) == 0 {
		return sample.Int(0), true
	}
	if a := o.p.Keys[e.Type]; a >= 0 {
		return e.Attrs[a], true
	}
	return api.Value{}, false
}

func (o oracle) together(x, y int) bool {
	a, ok := o.key(x)
	b, also := o.key(y)
	return ok && also && value.Same(a, b)
}

// between are the events of a binding's stream strictly between two places.
func (o oracle) between(bound [][]int, from, to int) []int {
	l := []int{}
	for x := from + 1; x < to; x++ {
		if o.together(bound[0][0], x) {
			l = append(l, x)
		}
	}
	return l
}

func (o oracle) holds(l []api.Node, bound [][]int, cur int) bool {
	return eval.All(l, eval.Look{Events: o.script, Bound: bound, Cur: cur})
}

func (o oracle) counts(not api.Part, bound [][]int, x int) bool {
	return o.script[x].Type == not.Type && o.holds(not.Guards, bound, x)
}

// positives are the branch's positive parts, and the place of each among all.
func (o oracle) positives() ([]api.Part, []int) {
	parts, at := []api.Part{}, []int{}
	for i, part := range o.b.Parts {
		if part.Form != api.Not {
			parts, at = append(parts, part), append(at, i)
		}
	}
	return parts, at
}

func (o oracle) inWindow(bound [][]int, x int) bool {
	return o.script[x].Time <= o.script[bound[0][0]].Time+o.b.Window
}

// fulfils: rules 1 to 5, and what a binding is.
func (o oracle) fulfils(bound [][]int) bool {
	parts, at := o.positives()
	all := slices.Concat(bound...)
	if len(bound) > len(parts) || !o.inWindow(bound, all[len(all)-1]) {
		return false
	}
	for i, places := range bound {
		if parts[i].Form == api.One && len(places) > 1 {
			return false
		}
		for j, x := range places {
			ahead := append(slices.Clone(bound[:i]), places[:j])
			if o.script[x].Type != parts[i].Type || !o.together(all[0], x) || !o.holds(parts[i].Guards, ahead, x) {
				return false
			}
		}
		if i == len(bound)-1 {
			break
		}
		if !o.holds(parts[i].Closes, bound[:i+1], -1) {
			return false
		}
		for _, x := range o.between(bound, places[len(places)-1], bound[i+1][0]) {
			for _, not := range o.b.Parts[at[i]+1 : at[i+1]] {
				if o.counts(not, bound[:i+1], x) {
					return false
				}
			}
		}
	}
	return true
}

// upTo is the binding up to its event at a place.
func upTo(bound [][]int, place int) [][]int {
	short := [][]int{}
	for _, places := range bound {
		l := []int{}
		for _, x := range places {
			if x <= place {
				l = append(l, x)
			}
		}
		if len(l) > 0 {
			short = append(short, l)
		}
	}
	return short
}

// passes: rule 6.
func (o oracle) passes(bound [][]int) bool {
	all := slices.Concat(bound...)
	for i := range len(all) - 1 {
		for _, x := range o.between(bound, all[i], all[i+1]) {
			if o.p.Strategy == api.Strict {
				return false
			}
			short := upTo(bound, all[i])
			more := slices.Clone(short)
			more[len(more)-1] = append(slices.Clone(more[len(more)-1]), x)
			next := append(slices.Clone(short), []int{x})
			if o.p.Strategy == api.Next && (o.fulfils(more) || o.fulfils(next)) {
				return false
			}
		}
	}
	return true
}

func (o oracle) begins(bound [][]int) bool {
	return o.fulfils(bound) && o.passes(bound)
}

// match is the one that a beginning is, if it is one.
func (o oracle) match(bound [][]int) (api.Match, bool) {
	parts, at := o.positives()
	if len(bound) < len(parts) || !o.holds(parts[len(parts)-1].Closes, bound, -1) {
		return api.Match{}, false
	}
	all := slices.Concat(bound...)
	last := all[len(all)-1]
	m, nots := api.Match{Step: last, Branch: o.b.Id, Parts: bound}, o.b.Parts[at[len(at)-1]+1:]
	if len(nots) > 0 {
		m.Step = len(o.script)
		for x := len(o.script) - 1; x >= 0 && !o.inWindow(bound, x); x-- {
			m.Step = x
		}
	}
	for _, x := range o.between(bound, last, len(o.script)) {
		for _, not := range nots {
			if o.inWindow(bound, x) && o.counts(not, bound, x) {
				return api.Match{}, false
			}
		}
	}
	return m, true
}

// maker makes queries and scripts of few types and few numbers, so that there are many matches.
type maker struct {
	*rand.Rand
	items []api.Item
}

func (m *maker) pick(l ...string) string {
	return l[m.IntN(len(l))]
}

func (m *maker) query() string {
	branches, conditions := []string{}, []string{}
	for b := range 1 + m.IntN(2) {
		m.items = nil
		written := []string{}
		positive := 0
		for i := range 1 + m.IntN(4) {
			form := 1 + m.IntN(3)
			if form != api.Not {
				positive++
			}
			if i == 0 && form == api.Not || positive > 3 {
				break
			}
			x := api.Item{Form: form, Type: m.pick("Buy", "Buy", "Sell", "Bell"), Name: fmt.Sprintf("i%d%d", b, i)}
			m.items = append(m.items, x)
			written = append(written, [4]string{api.Not: "!"}[form]+x.Type+[4]string{api.Many: "+"}[form]+" "+x.Name)
			if x.Type != "Bell" && m.IntN(2) == 0 {
				conditions = append(conditions, m.condition())
			}
		}
		if len(written) > 0 {
			branches = append(branches, "SEQ("+strings.Join(written, ", ")+")")
		}
	}
	if len(branches) == 0 {
		return "PATTERN SEQ(Buy a) STRATEGY ANY WITHIN 1"
	}
	text := "PATTERN " + strings.Join(branches, " | ")
	if len(conditions) > 0 {
		text += " WHERE " + strings.Join(conditions, " AND ")
	}
	text += " STRATEGY " + m.pick("STRICT", "NEXT", "NEXT", "ANY") + fmt.Sprintf(" WITHIN %d", m.IntN(6))
	if m.IntN(3) == 0 && !strings.Contains(text, "Bell") {
		text += " PARTITION BY " + m.pick("who", "n")
	}
	return text
}

// condition is one with the last item, perhaps with one ahead of it.
func (m *maker) condition() string {
	x := m.items[len(m.items)-1]
	number := fmt.Sprint(m.IntN(3))
	l := []string{x.Name + ".n" + m.pick(" > ", " != ", " <= ") + number, x.Name + ".who" + m.pick(" = ", " != ") + "'ann'"}
	if x.Form == api.Many {
		l = append(l,
			"COUNT("+x.Name+") "+m.pick("!=", "=", "<")+" "+number+" + 1",
			"(COUNT("+x.Name+") = 0 OR "+x.Name+".n "+m.pick(">=", "!=")+" LAST("+x.Name+".n))",
			"SUM("+x.Name+".n) > "+number,
			"FIRST("+x.Name+".n) <= LAST("+x.Name+".n)",
			x.Name+".n != COUNT("+x.Name+")")
	}
	if len(m.items) > 1 {
		y := m.items[m.IntN(len(m.items)-1)]
		switch {
		case y.Form == api.One && y.Type != "Bell":
			l = append(l, x.Name+".n "+m.pick(">=", "!=")+" "+y.Name+".n", "4 / "+y.Name+".n > "+x.Name+".n")
		case y.Form == api.Many:
			l = append(l, x.Name+".n <= COUNT("+y.Name+")", x.Name+".TIME - LAST("+y.Name+".TIME) < 3", "COUNT("+y.Name+") > 1")
		}
	}
	return m.pick(l...)
}

func (m *maker) script() []api.Event {
	l, time := []api.Event{}, int64(m.IntN(3))
	for range m.IntN(7) {
		time += int64(m.IntN(3) * m.IntN(2))
		e := api.Event{Type: []int{0, 0, 0, 1, 1, 4}[m.IntN(6)], Time: time}
		if e.Type != 4 {
			e.Attrs = []api.Value{sample.Sym(uint64(m.IntN(2))), sample.Int(int64(m.IntN(3)))}
		}
		l = append(l, e)
	}
	return l
}

// P11.2, P11.3: queries and scripts of all sorts, against the chapter's rules one by one.
func TestRandom(t *testing.T) {
	m := &maker{Rand: rand.New(rand.NewPCG(11, 1))}
	begun, whole := map[string]int{}, map[string]int{}
	for range 16000 {
		text, l := m.query(), m.script()
		p, wanted := made(t, text), []api.Match{}
		for i, b := range p.Branches {
			o := oracle{p, b, l}
			begins, matches := o.all(t, i, text)
			wanted = append(wanted, matches...)
			for _, sort := range sorts(o) {
				begun[sort] += begins
				whole[sort] += len(matches)
			}
		}
		if got, wanted := told(t, p, l), sample.Lines(match.Sort(wanted)); got != wanted {
			t.Fatalf("%s over %v: %s, wanted %s", text, l, got, wanted)
		}
	}
	for _, sort := range []string{"Strict", "Next", "Any", "keyed", "with a Not between", "with a Not behind", "with closes"} {
		if begun[sort] < 2000 || whole[sort] < 500 {
			t.Errorf("%s: there are %d beginnings, %d matches", sort, begun[sort], whole[sort])
		}
	}
}

// all holds Begins of all bindings against the rules; how many beginnings there are, and the matches.
func (o oracle) all(t *testing.T, branch int, text string) (int, []api.Match) {
	t.Helper()
	begins, matches := 0, []api.Match{}
	parts, _ := o.positives()
	for _, bound := range bindings(len(parts)+1, len(o.script)) {
		is := o.begins(bound)
		if got := model.Begins(o.p, branch, o.script, bound); got != is {
			t.Fatalf("%s over %v: Begins of the branch %d, %v: %v", text, o.script, branch, bound, got)
		}
		if !is {
			continue
		}
		begins++
		if found, ok := o.match(bound); ok {
			matches = append(matches, found)
		}
	}
	return begins, matches
}

// sorts are what is to be met often enough.
func sorts(o oracle) []string {
	l := []string{[]string{"", "Strict", "Next", "Any"}[o.p.Strategy]}
	if len(o.p.Keys) > 0 {
		l = append(l, "keyed")
	}
	for i, part := range o.b.Parts {
		switch {
		case len(part.Closes) > 0:
			l = append(l, "with closes")
		case part.Form == api.Not && i == len(o.b.Parts)-1:
			l = append(l, "with a Not behind")
		case part.Form == api.Not && o.b.Parts[i+1].Form != api.Not:
			l = append(l, "with a Not between")
		}
	}
	return l
}
