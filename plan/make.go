package plan

import (
	"auspice/api"
	"auspice/schema"
)

// none is the place of what isn't there.
const none = -1

// fault is what keeps a query from being a plan; the zero one: nothing does.
type fault struct {
	at  int
	err api.Errno
}

// item is what an item's name stands for.
type item struct {
	name   string
	form   int
	typ    int // its type's place
	branch int
	part   int // its place in the branch
	pos    int // its position; that of the next one, where it is a Not
}

// maker makes a plan, step by step.
type maker struct {
	schema api.Schema
	query  api.Query
	items  map[string]item // those whose names are taken
	plan   api.Plan
}

func (m *maker) addBranches() fault {
	for b, items := range m.query.Branches {
		branch, pos := api.Branch{Id: b, Window: m.query.Window}, 0
		for i, written := range items {
			typ := schema.Type(m.schema, written.Type)
			_, taken := m.items[written.Name]
			switch {
			case typ == none || taken:
				return fault{written.At, api.ErrName}
			case written.Form == api.Not && i == 0:
				return fault{written.At, api.ErrPlace}
			}
			m.items[written.Name] = item{written.Name, written.Form, typ, b, i, pos}
			branch.Parts = append(branch.Parts, api.Part{Form: written.Form, Type: typ})
			if written.Form != api.Not {
				pos++
			}
		}
		m.plan.Branches = append(m.plan.Branches, branch)
	}
	return fault{}
}

func (m *maker) addKeys() fault {
	if m.query.Key == "" {
		return fault{}
	}
	keys, kind := schema.Key(m.schema, m.query.Key), api.Poison
	for _, b := range m.plan.Branches {
		for _, part := range b.Parts {
			// Asked ahead of the kind: of a place that isn't there, schema would tell that of the time.
			if keys[part.Type] == none {
				return fault{m.query.KeyAt, api.ErrName}
			}
			own := schema.Kind(m.schema, part.Type, keys[part.Type])
			if kind != api.Poison && kind != own {
				return fault{m.query.KeyAt, api.ErrKind}
			}
			kind = own
		}
	}
	for t, a := range keys {
		if schema.Kind(m.schema, t, a) != kind {
			keys[t] = none
		}
	}
	m.plan.Keys = keys
	return fault{}
}

func (m *maker) addConditions() fault {
	for _, c := range m.query.Where {
		if f := m.addCondition(c); f.err != api.OK {
			return f
		}
	}
	return fault{}
}

func (m *maker) addCondition(c api.Expr) fault {
	n, f := m.node(c, "")
	switch {
	case f.err != api.OK:
		return f
	case n.Kind != api.Bool:
		return fault{c.At, api.ErrKind}
	}
	l := m.mentions(c)
	if len(l) == 0 {
		m.addEverywhere(c)
		return fault{}
	}
	to, ok := home(l)
	if !ok {
		return fault{c.At, api.ErrPlace}
	}
	n, _ = m.node(c, to.name)
	part := &m.plan.Branches[to.branch].Parts[to.part]
	if to.form == api.Many && !to.asks() {
		part.Closes = append(part.Closes, n)
	} else {
		part.Guards = append(part.Guards, n)
	}
	return fault{}
}

// addEverywhere puts a condition that names no item. No two branches may share its nodes.
func (m *maker) addEverywhere(c api.Expr) {
	for _, b := range m.plan.Branches {
		n, _ := m.node(c, "")
		b.Parts[0].Guards = append(b.Parts[0].Guards, n)
	}
}

// mention is an item that a condition names: bare, where it is by an attribute, not by COUNT or FIRST to MEAN.
type mention struct {
	item
	bare bool
}

func (m *maker) mentions(e api.Expr) []mention {
	l := []mention{}
	for _, arg := range e.Args {
		l = append(l, m.mentions(arg)...)
	}
	if e.Op >= api.Attr && e.Op <= api.Mean {
		l = append(l, mention{m.items[e.Name], e.Op == api.Attr})
	}
	return l
}

// asks tells whether the mention is of single events of its item, so that a condition with it is asked of each of them.
func (m mention) asks() bool {
	return m.form == api.Not || m.form == api.Many && m.bare
}

// home is the mention with whose item a condition is put that has these, and whether it can be put at all.
func home(l []mention) (mention, bool) {
	to := l[0]
	for _, m := range l {
		if m.asks() && !to.asks() || m.asks() == to.asks() && m.part > to.part {
			to = m
		}
	}
	for _, m := range l {
		if m.item != to.item && (m.branch != to.branch || m.asks() || m.part > to.part) {
			return mention{}, false
		}
	}
	return to, true
}
