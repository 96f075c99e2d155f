package checker

import "fulling/api"

// every reports whether holds is true of all elements of a list.
func every[T any](list []T, holds func(T) bool) bool {
	for _, element := range list {
		if !holds(element) {
			return false
		}
	}
	return true
}

// everyStatement reports whether holds is true of all statements of a list and of those inside them.
func everyStatement(list []api.Stmt, holds func(api.Stmt) bool) bool {
	return every(list, func(s api.Stmt) bool {
		return holds(s) && everyStatement(s.Then, holds) && everyStatement(s.Else, holds)
	})
}

// everyExpression reports whether holds is true of all expressions of a statement, whether its kind uses them or not.
// It leaves out those of the statements inside it.
func everyExpression(s api.Stmt, holds func(api.Expr) bool) bool {
	return holds(s.At) && holds(s.Value) && every(s.Args, holds)
}

// everyNode reports whether holds is true of all nodes of an expression.
func everyNode(e api.Expr, holds func(api.Expr) bool) bool {
	return holds(e) && every(e.Kids, func(kid api.Expr) bool { return everyNode(kid, holds) })
}
