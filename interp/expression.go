package interp

import (
	"fulling/api"
	"fulling/word"
)

// evaluateAll returns false if the run has ended.
func (a activation) evaluateAll(list []api.Expr) ([]int64, bool) {
	var values []int64
	for _, e := range list {
		value, ok := a.evaluate(e)
		if !ok {
			return nil, false
		}
		values = append(values, value)
	}
	return values, true
}

// evaluate returns false if the run has ended.
func (a activation) evaluate(e api.Expr) (int64, bool) {
	switch e.Kind {
	case api.ExprNum:
		return e.N, true
	case api.ExprVar:
		return a.variables[e.Name], true
	case api.ExprIndex:
		return a.load(e)
	case api.ExprOp:
		return a.operate(e)
	}
	return a.choose(e)
}

func (a activation) load(e api.Expr) (int64, bool) {
	at, ok := a.evaluate(e.Kids[0])
	if !ok {
		return 0, false
	}
	cell, ok := a.cell(e.Name, at)
	if !ok {
		return 0, false
	}
	return *cell, true
}

func (a activation) operate(e api.Expr) (int64, bool) {
	first, ok := a.evaluate(e.Kids[0])
	if !ok {
		return 0, false
	}
	if len(e.Kids) == 1 {
		return word.Unary(e.Op, first), true
	}
	second, ok := a.evaluate(e.Kids[1])
	if !ok {
		return 0, false
	}
	if second == 0 && (e.Op == api.OpDiv || e.Op == api.OpRem) {
		return 0, a.trap(api.TrapDiv)
	}
	return word.Binary(e.Op, first, second), true
}

// choose leaves the other alternative out, which might trap.
func (a activation) choose(e api.Expr) (int64, bool) {
	condition, ok := a.evaluate(e.Kids[0])
	if !ok {
		return 0, false
	}
	if condition != 0 {
		return a.evaluate(e.Kids[1])
	}
	return a.evaluate(e.Kids[2])
}
