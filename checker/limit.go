package checker

import (
	"slices"

	"fulling/api"
)

// exceedsLimit terminates even for slices that contain themselves: it stops at the first excess.
func exceedsLimit(p api.Program) bool {
	return len(p.Arrays) > api.MaxArrays || len(p.Funcs) > api.MaxFuncs ||
		slices.ContainsFunc(p.Arrays, hasWrongLength) || slices.ContainsFunc(p.Funcs, functionExceedsLimit)
}

func hasWrongLength(a api.Array) bool {
	return a.Len < 1 || a.Len > api.MaxLen
}

func functionExceedsLimit(f api.Func) bool {
	var c statementCounter
	return len(f.Params) > api.MaxParams || len(f.Locals) > api.MaxLocals ||
		c.exceedsLimit(f.Body, 0) || isTooDeep(f.Value, 0)
}

// statementCounter counts the statements and loops of a function.
type statementCounter struct {
	statements, loops int
}

// exceedsLimit counts the statements of a list that is nested in depth statements, and those inside them.
func (c *statementCounter) exceedsLimit(list []api.Stmt, depth int) bool {
	for _, s := range list {
		c.statements++
		if s.Kind == api.StmtWhile {
			c.loops++
		}
		if depth > api.MaxDeep || c.statements > api.MaxStmts || c.loops > api.MaxLoops {
			return true
		}
		if hasDeepExpression(s) || c.exceedsLimit(s.Then, depth+1) || c.exceedsLimit(s.Else, depth+1) {
			return true
		}
	}
	return false
}

func hasDeepExpression(s api.Stmt) bool {
	return !everyExpression(s, func(e api.Expr) bool { return !isTooDeep(e, 0) })
}

// isTooDeep examines an expression that is nested in depth nodes.
func isTooDeep(e api.Expr, depth int) bool {
	if depth > api.MaxDeep {
		return true
	}
	return slices.ContainsFunc(e.Kids, func(kid api.Expr) bool { return isTooDeep(kid, depth+1) })
}
