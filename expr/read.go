package expr

import (
	"strings"

	"auspice/api"
)

// fault is what a parser gives up with (by panic) where it can't go on.
type fault struct {
	at  int
	err api.Errno
}

// parser reads tokens from left to right, one ahead.
type parser struct {
	tokens []api.Token
	next   int // the place of the first token that isn't read
	nest   int // how many of what nests stand open
}

// look is the next token. A list made by hand may lack its end.
func (p *parser) look() api.Token {
	if p.next >= len(p.tokens) {
		return api.Token{}
	}
	return p.tokens[p.next]
}

func (p *parser) take() api.Token {
	t := p.look()
	p.next++
	return t
}

// mark is what a word or a sign says; of other tokens it is empty.
func mark(t api.Token) string {
	if t.Kind == api.TokWord || t.Kind == api.TokSign {
		return t.Text
	}
	return ""
}

func giveUp(t api.Token, err api.Errno) {
	panic(fault{t.At, err})
}

func (p *parser) need(wanted string) {
	if t := p.take(); mark(t) != wanted {
		giveUp(t, api.ErrSyntax)
	}
}

func (p *parser) name() string {
	t := p.take()
	if t.Kind != api.TokName {
		giveUp(t, api.ErrSyntax)
	}
	return strings.Clone(t.Text)
}

func (p *parser) field() string {
	p.need(".")
	if mark(p.look()) == markTime {
		p.take()
		return markTime
	}
	return p.name()
}

// expression is the longest one that binds at least so much.
func (p *parser) expression(least int) api.Expr {
	e, binds := p.operand(least)
	for {
		o, ok := infixOfMark(mark(p.look()))
		if !ok || o.binds < least || binds < o.left() {
			return e
		}
		at := p.take().At
		right := p.expression(o.right())
		e, binds = api.Expr{Op: o.op, Args: []api.Expr{e, right}, At: at}, o.binds
	}
}

// operand is what stands ahead of an operator between two, and how it binds.
func (p *parser) operand(least int) (api.Expr, int) {
	t := p.take()
	if o, ok := prefixOfMark(mark(t)); ok && o.binds >= least {
		return api.Expr{Op: o.op, Args: []api.Expr{p.prefixed(o, t)}, At: t.At}, o.binds
	}
	if mark(t) == "(" {
		return p.inBrackets(t), bindLeaf
	}
	e := p.leaf(t)
	e.At = t.At
	return e, bindLeaf
}

func (p *parser) prefixed(o prefix, t api.Token) api.Expr {
	p.open(t)
	if o.bracketed() {
		p.need(o.between)
	}
	e := p.expression(o.operand)
	if o.bracketed() {
		p.need(o.behind)
	}
	p.nest--
	return e
}

func (p *parser) inBrackets(t api.Token) api.Expr {
	p.open(t)
	e := p.expression(loosest)
	p.need(")")
	p.nest--
	return e
}

// open counts what nests, which t opens.
func (p *parser) open(t api.Token) {
	if p.nest == api.MaxDeep {
		giveUp(t, api.ErrDeep)
	}
	p.nest++
}

// leaf is a node without operands, which t begins.
func (p *parser) leaf(t api.Token) api.Expr {
	switch t.Kind {
	case api.TokInt:
		return api.Expr{Op: api.LitInt, N: t.N}
	case api.TokReal:
		return api.Expr{Op: api.LitReal, N: t.N, Scale: t.Scale}
	case api.TokSym:
		return api.Expr{Op: api.LitSym, Name: strings.Clone(t.Text)}
	case api.TokName:
		return api.Expr{Op: api.Attr, Name: strings.Clone(t.Text), Attr: p.field()}
	}
	switch mark(t) {
	case markYes:
		return api.Expr{Op: api.LitBool, N: 1}
	case markNo:
		return api.Expr{Op: api.LitBool}
	}
	return p.gathered(t)
}

// gathered is what is made of many events.
func (p *parser) gathered(t api.Token) api.Expr {
	op, ofField := gatherOfMark(mark(t))
	if !ofField && mark(t) != markCount {
		giveUp(t, api.ErrSyntax)
	}
	e := api.Expr{Op: api.Count}
	p.need("(")
	e.Name = p.name()
	if ofField {
		e.Op, e.Attr = op, p.field()
	}
	p.need(")")
	return e
}
