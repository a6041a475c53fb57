package prove_test

import (
	"fmt"
	"math/rand/v2"
	"slices"
	"testing"

	"auspice/api"
	"auspice/image"
	"auspice/prove"
	"auspice/sample"
	"auspice/value"
)

// dump tells all that a thing has; empty lists are alike in it.
func dump(x any) string {
	return fmt.Sprintf("%+v", x)
}

// none tells whether a node is the zero one.
func none(n api.Node) bool {
	return dump(n) == dump(api.Node{})
}

func leaf(op, kind, pos, attr int) api.Node {
	return api.Node{Op: op, Kind: kind, Pos: pos, Attr: attr}
}

func constant(v api.Value) api.Node {
	return api.Node{Op: api.Const, Kind: v.Kind, Value: v}
}

func of(op, kind int, args ...api.Node) api.Node {
	return api.Node{Op: op, Kind: kind, Args: args}
}

func tell(reg int) api.Ins {
	return api.Ins{Op: api.InsTell, A: reg}
}

func ofOne(op int) bool {
	return slices.Contains([]int{api.OpNeg, api.OpNot, api.OpReal, api.OpNan}, op)
}

func isOperator(op int) bool {
	return op >= api.OpAdd && op <= api.OpNan
}

func writes(op int) bool {
	return isOperator(op) || slices.Contains([]int{api.InsInput, api.InsConst, api.InsLoad}, op)
}

// teller looks up, instruction by instruction backwards, what Good code tells.
type teller struct {
	code api.Code
	left int // how many nodes there may be yet
}

// reg is the node of a register ahead of the instruction at a place.
func (x *teller) reg(reg, at int) api.Node {
	for at--; ; at-- {
		i := x.code.List[at]
		switch {
		case i.Op == api.InsLoad && i.Dst == reg:
			return x.slot(i.A, at)
		case writes(i.Op) && i.Dst == reg:
			return x.made(i, at)
		}
	}
}

// slot is likewise.
func (x *teller) slot(slot, at int) api.Node {
	for at--; ; at-- {
		if i := x.code.List[at]; i.Op == api.InsStore && i.A == slot {
			return x.reg(i.B, at)
		}
	}
}

// made is what the instruction at a place makes.
func (x *teller) made(i api.Ins, at int) api.Node {
	x.left--
	switch {
	case x.left < 0:
		return api.Node{}
	case i.Op == api.InsInput:
		in := x.code.Inputs[i.A]
		return leaf(in.Op, in.Kind, in.Pos, in.Attr)
	case i.Op == api.InsConst:
		return constant(x.code.Consts[i.A])
	case ofOne(i.Op):
		a := x.reg(i.A, at)
		return of(i.Op, value.Result(i.Op, []int{a.Kind}), a)
	}
	a, b := x.reg(i.A, at), x.reg(i.B, at)
	return of(i.Op, value.Result(i.Op, []int{a.Kind, b.Kind}), a, b)
}

// toldBy is what Good code tells; false, where it has too many nodes.
func toldBy(c api.Code) (api.Node, bool) {
	x, last := teller{c, api.MaxCode}, len(c.List)-1
	n := x.reg(c.List[last].A, last)
	return n, x.left >= 0
}

func wantMeaning(t *testing.T, what string, c api.Code, wanted api.Node) {
	t.Helper()
	before := dump(c)
	if got, ok := prove.Meaning(c); !ok || dump(got) != dump(wanted) {
		t.Fatalf("%s: %v, %+v, wanted %+v: %+v", what, ok, got, wanted, c)
	}
	if dump(c) != before {
		t.Fatalf("%s: %s became %+v", what, before, c)
	}
}

func wantNoMeaning(t *testing.T, what string, c api.Code) {
	t.Helper()
	if got, ok := prove.Meaning(c); ok || !none(got) {
		t.Fatalf("%s: %v, %+v: %+v", what, ok, got, c)
	}
}

// encoded is a table's image.
func encoded(t *testing.T, x api.Table) []byte {
	t.Helper()
	b, err := image.Encode(x)
	if err != api.OK {
		t.Fatalf("no image: %d: %+v", err, x)
	}
	return b
}

func wantValid(t *testing.T, what string, s api.Schema, a api.Auto, x api.Table, wanted bool) {
	t.Helper()
	if got := prove.Validate(s, a, encoded(t, x)); got != wanted {
		t.Fatalf("%s: %v: %+v\nof %+v", what, got, x, a)
	}
}

// coder makes tables with code of one sort or another.
func coder(r *rand.Rand) *sample.Coder {
	return &sample.Coder{Share: r.IntN(2) == 0, Regs: 2 + r.IntN(4)}
}

// tableOf is an automaton, by Shop, as a table.
func tableOf(t *testing.T, c *sample.Coder, a api.Auto) api.Table {
	t.Helper()
	x, ok := c.Table(a)
	if !ok {
		t.Fatalf("no table: %+v", a)
	}
	return x
}

// built is a query's automaton.
func built(t *testing.T, text string, level int) (api.Auto, bool) {
	t.Helper()
	p, ok := sample.Planned(text)
	if !ok {
		return api.Auto{}, false
	}
	a, ok := sample.Level(p, level)
	if !ok {
		t.Fatalf("no automaton: %s", text)
	}
	return a, true
}
