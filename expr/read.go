package expr

import (
	"strings"

	"auspice/api"
	"auspice/words"
)

// parser reads an expression: of its words it is the reader, and it counts what nests.
type parser struct {
	words.Reader
	nest int // how many of what nests stand open
}

func (p *parser) name() string {
	return strings.Clone(p.NeedKind(api.TokName).Text)
}

func (p *parser) field() string {
	p.Need(".")
	if p.Skip(markTime) {
		return markTime
	}
	return p.name()
}

// expression is the longest one that binds at least so much.
func (p *parser) expression(least int) api.Expr {
	e, binds := p.operand(least)
	for {
		o, ok := infixOfMark(words.Mark(p.Look()))
		if !ok || o.binds < least || binds < o.left() {
			return e
		}
		at := p.Take().At
		right := p.expression(o.right())
		e, binds = api.Expr{Op: o.op, Args: []api.Expr{e, right}, At: at}, o.binds
	}
}

// operand is what stands ahead of an operator between two, and how it binds.
func (p *parser) operand(least int) (api.Expr, int) {
	t := p.Take()
	if o, ok := prefixOfMark(words.Mark(t)); ok && o.binds >= least {
		return api.Expr{Op: o.op, Args: []api.Expr{p.prefixed(o, t)}, At: t.At}, o.binds
	}
	if words.Mark(t) == "(" {
		return p.inBrackets(t), bindLeaf
	}
	e := p.leaf(t)
	e.At = t.At
	return e, bindLeaf
}

func (p *parser) prefixed(o prefix, t api.Token) api.Expr {
	p.open(t)
	if o.bracketed() {
		p.Need(o.between)
	}
	e := p.expression(o.operand)
	if o.bracketed() {
		p.Need(o.behind)
	}
	p.nest--
	return e
}

func (p *parser) inBrackets(t api.Token) api.Expr {
	p.open(t)
	e := p.expression(loosest)
	p.Need(")")
	p.nest--
	return e
}

// open counts what nests, which t opens.
func (p *parser) open(t api.Token) {
	if p.nest == api.MaxDeep {
		words.GiveUp(t, api.ErrDeep)
	}
	p.nest++
}

// leaf is a node without operands, which t begins.
func (p *parser) leaf(t api.Token) api.Expr {
	switch t.Kind {
	case api.TokInt:
		return api.Expr{Op: api.LitInt, N: t.N}
	case api.TokReal:
		return api.Expr{Op: api.LitReal, N: t.N, Scale: t.Scale}
	case api.TokSym:
		return api.Expr{Op: api.LitSym, Name: strings.Clone(t.Text)}
	case api.TokName:
		return api.Expr{Op: api.Attr, Name: strings.Clone(t.Text), Attr: p.field()}
	}
	switch words.Mark(t) {
	case markYes:
		return api.Expr{Op: api.LitBool, N: 1}
	case markNo:
		return api.Expr{Op: api.LitBool}
	}
	return p.gathered(t)
}

// gathered is what is made of many events.
func (p *parser) gathered(t api.Token) api.Expr {
	op, ofField := gatherOfMark(words.Mark(t))
	if !ofField && words.Mark(t) != markCount {
		words.GiveUp(t, api.ErrSyntax)
	}
	e := api.Expr{Op: api.Count}
	p.Need("(")
	e.Name = p.name()
	if ofField {
		e.Op, e.Attr = op, p.field()
	}
	p.Need(")")
	return e
}
