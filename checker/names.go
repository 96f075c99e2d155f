package checker

import (
	"slices"

	"fulling/api"
)

func arrayNames(p api.Program) []string {
	var names []string
	for _, a := range p.Arrays {
		names = append(names, a.Name)
	}
	return names
}

func functionNames(p api.Program) []string {
	var names []string
	for _, f := range p.Funcs {
		names = append(names, f.Name)
	}
	return names
}

// hasDuplicate looks at functions apart from the other names: a function may have the name of an array or variable.
func hasDuplicate(p api.Program) bool {
	arrays := arrayNames(p)
	if hasRepetition(arrays) || hasRepetition(functionNames(p)) {
		return true
	}
	return slices.ContainsFunc(p.Funcs, func(f api.Func) bool {
		return hasRepetition(slices.Concat(arrays, f.Params, f.Locals))
	})
}

func hasRepetition(names []string) bool {
	for i, name := range names {
		if slices.Contains(names[:i], name) {
			return true
		}
	}
	return false
}

// scope has the names that are defined in a function.
type scope struct {
	arrays, functions, variables []string
}

func hasUndefinedName(p api.Program) bool {
	s := scope{arrays: arrayNames(p), functions: functionNames(p)}
	return slices.ContainsFunc(p.Funcs, func(f api.Func) bool {
		s.variables = slices.Concat(f.Params, f.Locals)
		return !everyStatement(f.Body, s.definesStatement) || !s.definesExpression(f.Value)
	})
}

// definesStatement leaves out the statements inside this one.
func (s scope) definesStatement(t api.Stmt) bool {
	return s.definesTargets(t) && everyExpression(t, s.definesExpression)
}

// definesTargets looks up the names that a statement has itself.
func (s scope) definesTargets(t api.Stmt) bool {
	switch t.Kind {
	case api.StmtAssign:
		return slices.Contains(s.variables, t.Name)
	case api.StmtStore:
		return slices.Contains(s.arrays, t.Name)
	case api.StmtCall:
		return slices.Contains(s.variables, t.Name) && slices.Contains(s.functions, t.To)
	}
	return true
}

func (s scope) definesExpression(e api.Expr) bool {
	return everyNode(e, s.definesNode)
}

func (s scope) definesNode(e api.Expr) bool {
	switch e.Kind {
	case api.ExprVar:
		return slices.Contains(s.variables, e.Name)
	case api.ExprIndex:
		return slices.Contains(s.arrays, e.Name)
	}
	return true
}

// hasWrongArity examines a program whose functions are defined and have different names.
func hasWrongArity(p api.Program) bool {
	params := map[string]int{}
	for _, f := range p.Funcs {
		params[f.Name] = len(f.Params)
	}
	hasRightArity := func(t api.Stmt) bool { return t.Kind != api.StmtCall || len(t.Args) == params[t.To] }
	return !every(p.Funcs, func(f api.Func) bool { return everyStatement(f.Body, hasRightArity) })
}
