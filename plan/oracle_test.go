package plan_test

import (
	"math/rand/v2"
	"slices"
	"strconv"
	"strings"
	"testing"

	"auspice/api"
	"auspice/plan"
	"auspice/query"
	"auspice/real"
	"auspice/schema"
	"auspice/value"
)

// spot is an item of a query, with its place in it.
type spot struct {
	api.Item
	branch, part int
}

// oracle says what the chapter says, rule by rule; of a query that has no fault of its own.
type oracle struct {
	s     api.Schema
	q     api.Query
	spots []spot
	at    int
	err   api.Errno
}

// fault keeps the first one.
func (o *oracle) fault(yes bool, at int, err api.Errno) {
	if yes && o.err == api.OK {
		o.at, o.err = at, err
	}
}

// named is the item of that name; one that isn't there has no form.
func (o *oracle) named(name string) spot {
	for _, x := range o.spots {
		if x.Name == name {
			return x
		}
	}
	return spot{}
}

func (o *oracle) items() {
	for b, l := range o.q.Branches {
		for i, it := range l {
			o.fault(schema.Type(o.s, it.Type) < 0, it.At, api.ErrName)
			o.fault(o.named(it.Name).Form != 0, it.At, api.ErrName)
			o.fault(it.Form == api.Not && i == 0, it.At, api.ErrPlace)
			o.spots = append(o.spots, spot{it, b, i})
		}
	}
}

// field is a type's attribute of that name: its place and its kind; 0, where there is none.
func (o *oracle) field(of, name string) (int, int) {
	for _, t := range o.s.Types {
		if t.Name == of && name == "TIME" {
			return -1, api.Int
		}
		for i, f := range t.Fields {
			if t.Name == of && f.Name == name {
				return i, f.Kind
			}
		}
	}
	return 0, 0
}

func (o *oracle) keys() []int {
	if o.q.Key == "" {
		return nil
	}
	_, first := o.field(o.spots[0].Type, o.q.Key)
	for _, x := range o.spots {
		_, kind := o.field(x.Type, o.q.Key)
		o.fault(kind == 0, o.q.KeyAt, api.ErrName)
		o.fault(kind != first, o.q.KeyAt, api.ErrKind)
	}
	l := []int{}
	for _, t := range o.s.Types {
		at, kind := o.field(t.Name, o.q.Key)
		if kind != first {
			at = -1
		}
		l = append(l, at)
	}
	return l
}

// node is an expression's, its attributes of the item asked being Cur.
func (o *oracle) node(e api.Expr, asked string) api.Node {
	n, kinds := api.Node{Op: e.Op}, []int{}
	for _, arg := range e.Args {
		n.Args = append(n.Args, o.node(arg, asked))
		kinds = append(kinds, n.Args[len(n.Args)-1].Kind)
	}
	x := o.named(e.Name)
	at, kind := o.field(x.Type, e.Attr)
	pos := 0
	for _, before := range o.spots {
		if before.branch == x.branch && before.part < x.part && before.Form != api.Not {
			pos++
		}
	}
	switch e.Op {
	case api.LitInt:
		return constant(api.Value{Kind: api.Int, Bits: uint64(e.N)})
	case api.LitBool:
		return constant(api.Value{Kind: api.Bool, Bits: uint64(e.N)})
	case api.LitReal:
		bits, _ := real.Decimal(e.N, e.Scale)
		return constant(api.Value{Kind: api.Real, Bits: bits})
	case api.LitSym:
		place := slices.Index(o.s.Syms, e.Name)
		o.fault(place < 0, e.At, api.ErrName)
		return constant(api.Value{Kind: api.Sym, Bits: uint64(place)})
	case api.Attr:
		o.fault(x.Form == 0 || kind == 0, e.At, api.ErrName)
		if e.Name == asked {
			return cur(at, kind)
		}
		return from(api.Of, pos, at, kind)
	case api.Count:
		o.fault(x.Form == 0, e.At, api.ErrName)
		o.fault(x.Form != api.Many, e.At, api.ErrKind)
		return count(pos)
	case api.First, api.Last, api.Sum, api.Min, api.Max, api.Mean:
		o.fault(x.Form == 0 || kind == 0, e.At, api.ErrName)
		o.fault(x.Form != api.Many, e.At, api.ErrKind)
		summed := e.Op == api.Sum || e.Op == api.Min || e.Op == api.Max
		o.fault(summed && kind != api.Int && kind != api.Real || e.Op == api.Mean && kind != api.Real, e.At, api.ErrKind)
		return from(e.Op, pos, at, kind)
	}
	n.Kind = value.Result(e.Op, kinds)
	o.fault(n.Kind == 0, e.At, api.ErrKind)
	return n
}

// walk shows all nodes of an expression.
func walk(e api.Expr, show func(e api.Expr)) {
	for _, arg := range e.Args {
		walk(arg, show)
	}
	show(e)
}

// home is the item with which a condition is put that names these, bare ones being those of which an attribute is named, and whether it can be put.
func home(named, bare []spot) (spot, bool) {
	nots, manys, last := []spot{}, []spot{}, named[0]
	for _, x := range named {
		if x.Form == api.Not {
			nots = append(nots, x)
		}
		if x.Form == api.Many && slices.Contains(bare, x) {
			manys = append(manys, x)
		}
		if x.part > last.part {
			last = x
		}
		if x.branch != named[0].branch {
			return spot{}, false
		}
	}
	ahead := func(of spot) bool {
		return !slices.ContainsFunc(named, func(x spot) bool { return x.part > of.part })
	}
	switch {
	case len(nots) > 0:
		return nots[0], len(nots) == 1 && len(manys) == 0 && ahead(nots[0])
	case len(manys) > 0:
		return manys[0], len(manys) == 1 && ahead(manys[0])
	}
	return last, true
}

func (o *oracle) condition(p api.Plan, c api.Expr) {
	n := o.node(c, "")
	o.fault(n.Kind != api.Bool, c.At, api.ErrKind)
	if o.err != api.OK {
		return
	}
	named, bare := []spot{}, []spot{}
	walk(c, func(e api.Expr) {
		if x := o.named(e.Name); e.Op != api.LitSym && x.Form != 0 {
			if !slices.Contains(named, x) {
				named = append(named, x)
			}
			if e.Op == api.Attr {
				bare = append(bare, x)
			}
		}
	})
	if len(named) == 0 {
		for _, b := range p.Branches {
			b.Parts[0].Guards = append(b.Parts[0].Guards, o.node(c, ""))
		}
		return
	}
	x, ok := home(named, bare)
	o.fault(!ok, c.At, api.ErrPlace)
	if !ok {
		return
	}
	part := &p.Branches[x.branch].Parts[x.part]
	if x.Form == api.Many && !slices.Contains(bare, x) {
		part.Closes = append(part.Closes, o.node(c, x.Name))
	} else {
		part.Guards = append(part.Guards, o.node(c, x.Name))
	}
}

func (o *oracle) plan() api.Plan {
	o.items()
	p := api.Plan{Strategy: o.q.Strategy, Keys: o.keys()}
	for b, l := range o.q.Branches {
		branch := api.Branch{Id: b, Window: o.q.Window}
		for _, it := range l {
			branch.Parts = append(branch.Parts, api.Part{Form: it.Form, Type: schema.Type(o.s, it.Type)})
		}
		p.Branches = append(p.Branches, branch)
	}
	for _, c := range o.q.Where {
		o.condition(p, c)
	}
	if o.err != api.OK {
		return api.Plan{}
	}
	return p
}

// maker makes texts of queries by market, some of them with a fault.
type maker struct {
	*rand.Rand
	items []spot
	s     api.Schema
}

func (m *maker) pick(l ...string) string {
	return l[m.IntN(len(l))]
}

// rarely is true now and then.
func (m *maker) rarely(times int) bool {
	return m.IntN(times) == 0
}

func (m *maker) query() string {
	m.items = nil
	branches := []string{}
	for b := range 1 + m.IntN(3) {
		items := []string{}
		for i := range 1 + m.IntN(5) {
			x := spot{api.Item{Form: 1 + m.IntN(3), Type: m.pick("A", "A", "A", "B"), Name: "i" + strconv.Itoa(b) + strconv.Itoa(i)}, b, i}
			if i == 0 && !m.rarely(60) && x.Form == api.Not {
				x.Form = api.One
			}
			if m.rarely(60) {
				x.Type = m.pick("C", "D", "X")
			}
			if m.rarely(100) {
				x.Name = "i00"
			}
			m.items = append(m.items, x)
			items = append(items, [4]string{api.Not: "!"}[x.Form]+x.Type+[4]string{api.Many: "+"}[x.Form]+" "+x.Name)
		}
		branches = append(branches, "SEQ("+strings.Join(items, ", ")+")")
	}
	text := "PATTERN " + strings.Join(branches, " | ")
	for i := range m.IntN(4) {
		text += [2]string{" WHERE ", " AND "}[min(i, 1)] + m.condition()
	}
	text += " STRATEGY NEXT WITHIN 5"
	if m.rarely(4) {
		text += " PARTITION BY " + m.pick("k", "k", "k", "x", "s", "i00")
	}
	return text
}

// condition names few items, most of them of one branch.
func (m *maker) condition() string {
	some := []spot{}
	first := m.items[m.IntN(len(m.items))]
	for range m.IntN(4) {
		if x := m.items[m.IntN(len(m.items))]; x.branch == first.branch || m.rarely(5) {
			some = append(some, x)
		}
	}
	return "(" + m.text(api.Bool, 2, some) + ")"
}

// text is an expression of that kind, as a rule.
func (m *maker) text(kind, deep int, some []spot) string {
	if m.rarely(60) {
		kind = 1 + m.IntN(4)
	}
	if deep == 0 || m.rarely(4) {
		return m.leaf(kind, some)
	}
	of := func(kind int) string { return "(" + m.text(kind, deep-1, some) + ")" }
	switch kind {
	case api.Int:
		return m.pick(of(api.Int)+m.pick("+", "-", "*", "/", "%")+of(api.Int), "-"+of(api.Int), m.leaf(kind, some))
	case api.Real:
		return m.pick(of(api.Real)+m.pick("+", "-", "*", "/")+of(api.Real), "-"+of(api.Real), "REAL"+of(api.Int), m.leaf(kind, some))
	case api.Sym:
		return m.leaf(kind, some)
	}
	alike, numbers := 1+m.IntN(4), [2]int{api.Int, api.Real}[m.IntN(2)]
	return m.pick(
		of(alike)+m.pick("=", "!=")+of(alike),
		of(numbers)+m.pick("<", "<=", ">", ">=")+of(numbers),
		of(api.Bool)+m.pick(" AND ", " OR ")+of(api.Bool), "NOT "+of(api.Bool), "ISNAN"+of(api.Real), m.leaf(kind, some))
}

// leaf is a literal, or one of what the items have of that kind.
func (m *maker) leaf(kind int, some []spot) string {
	if m.rarely(100) {
		return m.pick("z.x", "COUNT(z)", "i00.z", "MAX(i01.s)", "'eve'", "MEAN(i01.k)", "FIRST(i00.x)")
	}
	l := []string{}
	for _, x := range some {
		fields := []string{"TIME"}
		for _, f := range market().Types[max(0, schema.Type(market(), x.Type))].Fields {
			if f.Kind == kind {
				fields = append(fields, f.Name)
			}
		}
		if kind != api.Int {
			fields = fields[1:]
		}
		for _, f := range fields {
			own := x.Name + "." + f
			if x.Form != api.Many || m.rarely(3) {
				l = append(l, own)
			}
			if x.Form == api.Many || m.rarely(60) {
				l = append(l, m.pick("FIRST", "LAST")+"("+own+")")
				if kind == api.Int || kind == api.Real {
					l = append(l, m.pick("SUM", "MIN", "MAX")+"("+own+")")
				}
				if kind == api.Real {
					l = append(l, "MEAN("+own+")")
				}
			}
		}
		if kind == api.Int && x.Form == api.Many {
			l = append(l, "COUNT("+x.Name+")", "COUNT("+x.Name+")")
		}
	}
	if len(l) == 0 || m.rarely(8) {
		return [5]string{"", m.pick("0", "7", "9223372036854775807"), m.pick("TRUE", "FALSE"), m.pick("'ann'", "'bob'"), m.pick("0.5", "12.75")}[kind]
	}
	return m.pick(l...)
}

// P8.1: queries of all sorts, against the chapter's rules one by one.
func TestMakeRandom(t *testing.T) {
	m := &maker{Rand: rand.New(rand.NewPCG(8, 1)), s: market()}
	told, put := map[api.Errno]int{}, map[string]int{}
	for range 30000 {
		text := m.query()
		q := parsed(t, text)
		if _, err := query.Print(q); err != api.OK {
			continue
		}
		o := &oracle{s: m.s, q: q}
		wanted := o.plan()
		got, at, err := plan.Make(m.s, q)
		if dump(got) != dump(wanted) || at != o.at || err != o.err {
			t.Fatalf("Make(%q): %+v, %d at %d, wanted %+v, %d at %d", text, got, err, at, wanted, o.err, o.at)
		}
		told[err]++
		for _, b := range got.Branches {
			for i, part := range b.Parts {
				put["guards of "+[4]string{"", "a One", "a Many", "a Not"}[part.Form]+[2]string{"", " behind the first"}[min(i, 1)]] += len(part.Guards)
				put["closes"] += len(part.Closes)
			}
		}
	}
	for _, err := range []api.Errno{api.OK, api.ErrName, api.ErrKind, api.ErrPlace} {
		if told[err] < 500 {
			t.Errorf("the error %d is told %d times of 30000", err, told[err])
		}
	}
	for _, what := range []string{"guards of a One", "guards of a One behind the first", "guards of a Many behind the first", "guards of a Not behind the first", "closes"} {
		if put[what] < 500 {
			t.Errorf("%d conditions are put with %s", put[what], what)
		}
	}
}
