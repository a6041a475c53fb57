package value

import "auspice/api"

func resultOfOne(op, kind int) int {
	switch op {
	case api.OpNeg:
		if isNumber(kind) {
			return kind
		}
	case api.OpNot:
		if kind == api.Bool {
			return api.Bool
		}
	case api.OpReal:
		if kind == api.Int {
			return api.Real
		}
	case api.OpNan:
		if kind == api.Real {
			return api.Bool
		}
	}
	return api.Poison
}

func resultOfTwo(op, kind int) int {
	switch op {
	case api.OpAdd, api.OpSub, api.OpMul, api.OpDiv:
		if isNumber(kind) {
			return kind
		}
	case api.OpMod:
		if kind == api.Int {
			return api.Int
		}
	case api.OpEq, api.OpNe:
		if isNumber(kind) || kind == api.Bool || kind == api.Sym {
			return api.Bool
		}
	case api.OpLt, api.OpLe, api.OpGt, api.OpGe:
		if isNumber(kind) {
			return api.Bool
		}
	case api.OpAnd, api.OpOr:
		if kind == api.Bool {
			return api.Bool
		}
	}
	return api.Poison
}

func isNumber(kind int) bool {
	return kind == api.Int || kind == api.Real
}
