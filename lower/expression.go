package lower

import "fulling/api"

// expression returns the node of an expression's value. It changes the state, because the expression may trap.
func (t *translation) expression(e api.Expr) int {
	switch e.Kind {
	case api.ExprNum:
		return t.constant(e.N)
	case api.ExprVar:
		return t.values[t.variable(e.Name)]
	case api.ExprIndex:
		return t.element(e)
	case api.ExprOp:
		return t.operation(e)
	}
	return t.choice(e)
}

func (t *translation) element(e api.Expr) int {
	array, at := t.array(e.Name), t.expression(e.Kids[0])
	t.guardIndex(array, at)
	return t.put(api.OpLoad, int64(array), t.state, at)
}

func (t *translation) operation(e api.Expr) int {
	var operands []int
	for _, kid := range e.Kids {
		operands = append(operands, t.expression(kid))
	}
	if e.Op == api.OpDiv || e.Op == api.OpRem {
		t.guard(api.TrapDiv, t.put(api.OpNe, 0, operands[1], t.constant(0)))
	}
	return t.put(e.Op, 0, operands...)
}

// choice gives both alternatives the same state, because only one of them is evaluated.
func (t *translation) choice(e api.Expr) int {
	condition := t.expression(e.Kids[0])
	before := t.state
	first := t.expression(e.Kids[1])
	afterFirst := t.state
	t.state = before
	second := t.expression(e.Kids[2])
	value := t.merge(condition, first, second)
	t.state = t.merge(condition, afterFirst, t.state)
	return value
}

// guard lets the state trap if a value is 0.
func (t *translation) guard(code, value int) {
	t.state = t.put(api.OpGuard, int64(code), t.state, value)
}

// guardIndex compares without a sign, so that a negative index is too large.
func (t *translation) guardIndex(array, at int) {
	length := t.constant(int64(t.program.Arrays[array].Len))
	t.guard(api.TrapIndex, t.put(api.OpLtu, 0, at, length))
}
