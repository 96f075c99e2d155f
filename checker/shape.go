package checker

import (
	"fulling/api"
	"fulling/parser"
)

// maxTrap is the largest N of a trap statement.
const maxTrap = 1000000

// statementFields says which fields a kind of statement uses.
type statementFields struct {
	name, to, n, at, value, args, then, otherwise bool
}

// fieldsOfStatement returns false for an unknown kind.
func fieldsOfStatement(kind int) (statementFields, bool) {
	switch kind {
	case api.StmtAssign:
		return statementFields{name: true, value: true}, true
	case api.StmtStore:
		return statementFields{name: true, at: true, value: true}, true
	case api.StmtIf:
		return statementFields{value: true, then: true, otherwise: true}, true
	case api.StmtWhile:
		return statementFields{value: true, then: true}, true
	case api.StmtOut:
		return statementFields{value: true}, true
	case api.StmtCall:
		return statementFields{name: true, to: true, args: true}, true
	case api.StmtTrap:
		return statementFields{n: true}, true
	}
	return statementFields{}, false
}

// expressionFields says which fields an expression uses, and how many Kids it has.
type expressionFields struct {
	n, name, op bool
	kids        int
}

// fieldsOfExpression returns false for an unknown kind.
func fieldsOfExpression(e api.Expr) (expressionFields, bool) {
	switch e.Kind {
	case api.ExprNum:
		return expressionFields{n: true}, true
	case api.ExprVar:
		return expressionFields{name: true}, true
	case api.ExprIndex:
		return expressionFields{name: true, kids: 1}, true
	case api.ExprOp:
		return expressionFields{op: true, kids: operandCount(e.Op)}, true
	case api.ExprCond:
		return expressionFields{kids: 3}, true
	}
	return expressionFields{}, false
}

// shapes tells whether the parts of a program are such that parser.Parse may produce them.
type shapes struct {
	// names remembers which names parser.Parse accepts: a program repeats its names.
	names map[string]bool
}

func isWellFormed(p api.Program) bool {
	s := shapes{names: map[string]bool{}}
	return every(p.Arrays, func(a api.Array) bool { return s.isName(a.Name) }) && every(p.Funcs, s.function)
}

func (s shapes) function(f api.Func) bool {
	return s.isName(f.Name) && every(f.Params, s.isName) && every(f.Locals, s.isName) &&
		everyStatement(f.Body, s.statement) && s.expression(f.Value)
}

// statement leaves out the statements inside this one.
func (s shapes) statement(t api.Stmt) bool {
	uses, known := fieldsOfStatement(t.Kind)
	return known && s.nameField(t.Name, uses.name) && s.nameField(t.To, uses.to) && trapField(t.N, uses.n) &&
		s.expressionField(t.At, uses.at) && s.expressionField(t.Value, uses.value) &&
		(uses.args || len(t.Args) == 0) && every(t.Args, s.expression) &&
		(uses.then || len(t.Then) == 0) && (uses.otherwise || len(t.Else) == 0)
}

func (s shapes) expression(e api.Expr) bool {
	return everyNode(e, s.node)
}

// node leaves out the nodes inside this one.
func (s shapes) node(e api.Expr) bool {
	uses, known := fieldsOfExpression(e)
	return known && (uses.n || e.N == 0) && s.nameField(e.Name, uses.name) && operationField(e.Op, uses.op) &&
		len(e.Kids) == uses.kids
}

func (s shapes) nameField(name string, used bool) bool {
	if !used {
		return name == ""
	}
	return s.isName(name)
}

func (s shapes) expressionField(e api.Expr, used bool) bool {
	if !used {
		return isZero(e)
	}
	return s.expression(e)
}

func trapField(n int, used bool) bool {
	if !used {
		return n == 0
	}
	return n >= 0 && n <= maxTrap
}

func operationField(op int, used bool) bool {
	if !used {
		return op == 0
	}
	return op >= api.OpAdd && op <= api.OpLe || isUnary(op)
}

func isUnary(op int) bool {
	return op == api.OpNeg || op == api.OpNot
}

// operandCount returns the number of operands of an operation of expressions.
func operandCount(op int) int {
	if isUnary(op) {
		return 1
	}
	return 2
}

func isZero(e api.Expr) bool {
	return e.Kind == 0 && e.N == 0 && e.Name == "" && e.Op == 0 && len(e.Kids) == 0
}

func (s shapes) isName(name string) bool {
	if !s.names[name] {
		s.names[name] = isParsedAsName(name)
	}
	return s.names[name]
}

// isParsedAsName asks the parser because it knows the reserved words.
func isParsedAsName(name string) bool {
	p, err := parser.Parse("array " + name + " 1;")
	// A text with more than a name in it may be parsed too, but then this name is another one.
	return err.Why == api.OK && len(p.Arrays) == 1 && p.Arrays[0].Name == name
}
