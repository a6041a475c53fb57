package expr

import (
	"auspice/api"
	"auspice/tree"
)

func Nodes(e api.Expr) int {
	return tree.Count(&e, args)
}

func Same(a, b api.Expr) bool {
	return tree.Same(&a, &b, args, alike)
}

func args(e *api.Expr) []api.Expr {
	return e.Args
}

// alike tells whether two nodes are the same, At and Args aside.
func alike(a, b *api.Expr) bool {
	return a.Op == b.Op && a.N == b.N && a.Scale == b.Scale && a.Name == b.Name && a.Attr == b.Attr
}
