package sample

import (
	"strconv"
	"strings"

	"auspice/api"
)

// bare is the place of Shop's type without attributes.
const bare = 2

// Shop has two types of alike attributes, one of each kind, and one without any.
func Shop() api.Schema {
	types := []api.Type{}
	for _, name := range []string{"A", "B"} {
		types = append(types, api.Type{Name: name, Fields: []api.Field{{Name: "k", Kind: api.Sym}, {Name: "x", Kind: api.Int}, {Name: "r", Kind: api.Real}, {Name: "b", Kind: api.Bool}}})
	}
	return api.Schema{Types: append(types, api.Type{Name: "C"}), Syms: []string{"ann", "bob"}}
}

// Maker makes queries by Shop, and scripts, of few numbers, so that there are many matches; of the conditions many may be made smaller, or asked sooner. Pick picks: a number from 0 on, below the one that it is handed.
type Maker struct {
	Pick  func(n int) int
	items []api.Item // those of the branch, as far as it is made
	asked []string   // the conditions, as far as they are made
	own   []string   // those of the branch
}

func (m *Maker) oneOf(l ...string) string {
	return l[m.Pick(len(l))]
}

func (m *Maker) number(below int) string {
	return strconv.Itoa(m.Pick(below))
}

func (m *Maker) Query() string {
	branches := []string{}
	m.asked = nil
	for b := range 1 + m.Pick(2) {
		branches = append(branches, m.branch(b))
	}
	text := "PATTERN " + strings.Join(branches, " | ")
	if len(m.asked) > 0 {
		text += " WHERE " + strings.Join(m.asked, " AND ")
	}
	text += " STRATEGY " + m.oneOf("STRICT", "NEXT", "ANY") + " WITHIN " + m.number(7)
	if m.Pick(4) == 0 && !strings.Contains(text, "C ") && !strings.Contains(text, "C+") {
		text += " PARTITION BY " + m.oneOf("k", "x")
	}
	return text
}

func (m *Maker) branch(b int) string {
	written := []string{}
	m.items, m.own = nil, nil
	for i := range 1 + m.Pick(4) {
		x := api.Item{Form: 1 + m.Pick(3), Type: m.oneOf("A", "A", "A", "B", "C"), Name: "i" + strconv.Itoa(b) + strconv.Itoa(i)}
		if i == 0 && x.Form == api.Not {
			x.Form = api.One
		}
		m.items = append(m.items, x)
		written = append(written, [...]string{api.Not: "!"}[x.Form]+x.Type+[...]string{api.Many: "+", api.Not: ""}[x.Form]+" "+x.Name)
		for range m.Pick(3) {
			m.own = append(m.own, m.condition())
		}
	}
	m.asked = append(m.asked, m.own...)
	return "SEQ(" + strings.Join(written, ", ") + ")"
}

// condition is one that is put with the last item, if it isn't made smaller.
func (m *Maker) condition() string {
	plain := m.plain(m.last())
	switch m.Pick(9) {
	case 0:
		return m.span()
	case 1:
		return "(" + m.plain(m.ahead()) + " OR FALSE AND " + plain + ")"
	case 2:
		return "NOT NOT (" + plain + m.oneOf(" AND TRUE", " OR FALSE", " AND 1 + 1 = 2", " OR 1 / 0 = 1 AND FALSE") + ")"
	case 3:
		return "(" + plain + " OR " + m.oneOf("TRUE", "2 > 1", "NOT ISNAN(0.5)") + ")"
	case 4:
		if m.Pick(4) > 0 && m.last().Form != api.Not {
			return plain
		}
		return "NOT (" + plain + m.oneOf(" OR TRUE", " AND FALSE OR 1 / 0 = 1", " OR 1 < 2") + ")"
	case 5:
		return "(" + m.text(api.Bool, 3) + ")"
	case 6:
		if len(m.own) > 0 {
			return m.own[m.Pick(len(m.own))]
		}
	}
	return plain
}

func (m *Maker) last() api.Item {
	return m.items[len(m.items)-1]
}

// ahead is a positive item, most often one ahead of the last one.
func (m *Maker) ahead() api.Item {
	for range 4 {
		if x := m.items[m.Pick(max(1, len(m.items)-1))]; x.Form != api.Not {
			return x
		}
	}
	return m.items[0]
}

// plain is a condition of an item that often holds, perhaps of one ahead of it too.
func (m *Maker) plain(x api.Item) string {
	own, other := m.ofItem(x, "x"), m.number(3)
	if y := m.ahead(); y.Name != x.Name && m.Pick(2) == 0 {
		other = m.ofItem(y, "x")
	}
	return own + m.oneOf(" >= ", " != ", " <= ") + other
}

// ofItem is a number of an item: an attribute, if it is single, or is asked event by event, as the last one is; else what is made of that of all its events.
func (m *Maker) ofItem(x api.Item, field string) string {
	if x.Type == "C" {
		field = "TIME"
	}
	switch {
	case x.Form != api.Many || x.Name == m.last().Name && m.Pick(2) == 0:
		return x.Name + "." + field
	case m.Pick(3) == 0:
		return "COUNT(" + x.Name + ")"
	}
	return m.oneOf("FIRST", "LAST", "SUM", "MIN", "MAX") + "(" + x.Name + "." + field + ")"
}

// span says how far behind the first item the last one is.
func (m *Maker) span() string {
	first := m.items[0].Name + ".TIME"
	if m.items[0].Form == api.Many {
		first = "FIRST(" + first + ")"
	}
	return m.last().Name + ".TIME - " + first + m.oneOf(" <= ", " < ") + m.oneOf("0", "1", "2", "3", "1 + 1", "9", "-1")
}

// text is an expression of that kind.
func (m *Maker) text(kind, deep int) string {
	if deep == 0 || m.Pick(4) == 0 {
		return m.leaf(kind)
	}
	of := func(kind int) string { return "(" + m.text(kind, deep-1) + ")" }
	switch kind {
	case api.Int, api.Real:
		switch m.Pick(4) {
		case 0:
			return "-" + of(kind)
		case 1:
			if kind == api.Real {
				return "REAL" + of(api.Int)
			}
			return of(kind) + "%" + of(kind)
		}
		return of(kind) + m.oneOf("+", "-", "*", "/") + of(kind)
	case api.Bool:
		return m.truth(of)
	}
	return m.leaf(kind)
}

// truth is an expression that is a Bool, of operands that of makes.
func (m *Maker) truth(of func(kind int) string) string {
	switch m.Pick(6) {
	case 0:
		alike := api.Int + m.Pick(4)
		return of(alike) + m.oneOf("=", "!=") + of(alike)
	case 1:
		numbers := []int{api.Int, api.Real}[m.Pick(2)]
		return of(numbers) + m.oneOf("<", "<=", ">", ">=") + of(numbers)
	case 2:
		return "NOT " + of(api.Bool)
	case 3:
		return "ISNAN" + of(api.Real)
	}
	return of(api.Bool) + m.oneOf(" AND ", " OR ") + of(api.Bool)
}

// leaf is a literal, or what an item has of that kind: the last one, or a positive one ahead of it.
func (m *Maker) leaf(kind int) string {
	x := m.last()
	if m.Pick(2) == 0 {
		x = m.ahead()
	}
	if m.Pick(3) == 0 || x.Type == "C" {
		return m.oneOf([...][]string{
			api.Int:  {"0", "1", "2", "9223372036854775807"},
			api.Bool: {"TRUE", "FALSE"},
			api.Sym:  {"'ann'", "'bob'"},
			api.Real: {"0.0", "0.5", "1.0"},
		}[kind]...)
	}
	field := [...]string{api.Bool: "b", api.Sym: "k", api.Real: "r"}
	switch {
	case kind == api.Int:
		return m.ofItem(x, "x")
	case x.Form != api.Many || x.Name == m.last().Name && m.Pick(2) == 0:
		return x.Name + "." + field[kind]
	case kind == api.Real:
		return m.oneOf("MEAN", "SUM", "MIN", "LAST") + "(" + x.Name + ".r)"
	}
	return m.oneOf("FIRST", "LAST") + "(" + x.Name + "." + field[kind] + ")"
}

// Script is of fewer events than that.
func (m *Maker) Script(below int) []api.Event {
	l, time := []api.Event{}, int64(m.Pick(3))
	for range m.Pick(below) {
		time += int64(m.Pick(3) * m.Pick(2))
		e := api.Event{Type: []int{0, 0, 0, 1, bare}[m.Pick(5)], Time: time}
		if e.Type != bare {
			r := []uint64{0, SignBit, One, One, NaN, Infinite}[m.Pick(6)]
			e.Attrs = []api.Value{Sym(uint64(m.Pick(2))), Int(int64(m.Pick(3))), Real(r), Bool(uint64(m.Pick(2)))}
		}
		l = append(l, e)
	}
	return l
}
