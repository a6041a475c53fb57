package expr

import (
	"auspice/api"
	"auspice/lex"
	"auspice/tree"
)

// written is the text of a tree, and how deep it nests.
type written struct {
	text string
	nest int
}

// write is for a place that asks for what binds at least so much.
func write(e api.Expr, least int) written {
	w, binds := bare(e)
	if binds < least {
		return w.inside("(", ")")
	}
	return w
}

// inside is w within something that nests.
func (w written) inside(ahead, behind string) written {
	return written{ahead + w.text + behind, w.nest + 1}
}

// bare is without brackets around the whole; and how it binds.
func bare(e api.Expr) (written, int) {
	if o, ok := infixOf(e.Op); ok {
		left, right := write(e.Args[0], o.left()), write(e.Args[1], o.right())
		return written{left.text + " " + o.mark + " " + right.text, max(left.nest, right.nest)}, o.binds
	}
	if o, ok := prefixOf(e.Op); ok {
		return write(e.Args[0], o.operand).inside(o.mark+o.between, o.behind), o.binds
	}
	return written{text: leafText(e)}, bindLeaf
}

// leafText is empty where the Op isn't a leaf's.
func leafText(e api.Expr) string {
	switch e.Op {
	case api.LitInt:
		return lex.Spell(api.Token{Kind: api.TokInt, N: e.N})
	case api.LitReal:
		return lex.Spell(api.Token{Kind: api.TokReal, N: e.N, Scale: e.Scale})
	case api.LitBool:
		if e.N == 0 {
			return markNo
		}
		return markYes
	case api.LitSym:
		return lex.Spell(api.Token{Kind: api.TokSym, Text: e.Name})
	case api.Attr:
		return e.Name + "." + e.Attr
	case api.Count:
		return markCount + "(" + e.Name + ")"
	}
	if m := gatherMark(e.Op); m != "" {
		return m + "(" + e.Name + "." + e.Attr + ")"
	}
	return ""
}

func ofForm(e *api.Expr) bool {
	for n := range tree.Upward(e, args) {
		if !nodeOfForm(n) {
			return false
		}
	}
	return true
}

// nodeOfForm asks a node alone, its Args aside.
func nodeOfForm(n *api.Expr) bool {
	operands := 0
	if _, ok := infixOf(n.Op); ok {
		operands = 2
	} else if _, ok := prefixOf(n.Op); ok {
		operands = 1
	}
	if operands == 0 {
		return leafOfForm(n)
	}
	return len(n.Args) == operands && alike(n, &api.Expr{Op: n.Op})
}

// leafOfForm has the leaf's text read: it is of the form just where it comes back, so what names and numbers may be is told in one place.
func leafOfForm(n *api.Expr) bool {
	l, _, _ := lex.Scan(leafText(*n))
	e, next, _, err := Read(l, 0)
	return err == api.OK && l[next].Kind == api.TokEnd && len(n.Args) == 0 && alike(n, &e)
}
