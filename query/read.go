package query

import (
	"auspice/api"
	"auspice/expr"
	"auspice/words"
)

// The marks of a query's text that are both read and written.
const (
	markMany     = "+"
	markNot      = "!"
	markBranches = "|"
	markItems    = ","
)

// strategies are the words of the strategies.
var strategies = [...]string{api.Strict: "STRICT", api.Next: "NEXT", api.Any: "ANY"}

// parser reads a query: of its words it is the reader, and expressions it hands on to their layer.
type parser struct {
	words.Reader
}

func (p *parser) query() api.Query {
	q := api.Query{}
	p.Need("PATTERN")
	q.Branches = p.branches()
	if p.Skip("WHERE") {
		q.Where = conditions(p.expression())
	}
	p.Need("STRATEGY")
	q.Strategy = p.strategy()
	p.Need("WITHIN")
	q.Window = p.window()
	if p.Skip("PARTITION") {
		p.Need("BY")
		key := p.NeedKind(api.TokName)
		q.Key, q.KeyAt = key.Text, key.At
	}
	p.NeedKind(api.TokEnd)
	return q
}

func (p *parser) branches() [][]api.Item {
	l := [][]api.Item{}
	for more := true; more; more = p.Skip(markBranches) {
		if first := p.Need("SEQ"); len(l) == api.MaxBranches {
			words.GiveUp(first, api.ErrLong)
		}
		l = append(l, p.items())
	}
	return l
}

func (p *parser) items() []api.Item {
	p.Need("(")
	l := []api.Item{}
	for more := true; more; more = p.Skip(markItems) {
		first := p.Look()
		if first.Kind != api.TokName && words.Mark(first) != markNot {
			words.GiveUp(first, api.ErrSyntax)
		}
		if len(l) == api.MaxItems {
			words.GiveUp(first, api.ErrLong)
		}
		l = append(l, p.item())
	}
	p.Need(")")
	return l
}

func (p *parser) item() api.Item {
	i := api.Item{Form: api.One, At: p.Look().At}
	if p.Skip(markNot) {
		i.Form = api.Not
	}
	i.Type = p.NeedKind(api.TokName).Text
	if i.Form == api.One && p.Skip(markMany) {
		i.Form = api.Many
	}
	i.Name = p.NeedKind(api.TokName).Text
	return i
}

func (p *parser) expression() api.Expr {
	e, next, at, err := expr.Read(p.Tokens, p.Next)
	if err != api.OK {
		panic(words.Fault{At: at, Err: err})
	}
	p.Next = next
	return e
}

// conditions are those that an expression is made of by AND.
func conditions(e api.Expr) []api.Expr {
	if e.Op != api.OpAnd {
		return []api.Expr{e}
	}
	return append(conditions(e.Args[0]), conditions(e.Args[1])...)
}

func (p *parser) strategy() int {
	t := p.Take()
	for s := api.Strict; s <= api.Any; s++ {
		if words.Mark(t) == strategies[s] {
			return s
		}
	}
	panic(words.Fault{At: t.At, Err: api.ErrSyntax})
}

func (p *parser) window() int64 {
	t := p.NeedKind(api.TokInt)
	if t.N > api.MaxTime {
		words.GiveUp(t, api.ErrArg)
	}
	return t.N
}
