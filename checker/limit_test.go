package checker_test

import (
	"fmt"
	"math"
	"slices"
	"testing"

	"fulling/api"
)

// checkLimit checks that make(n) is valid up to n = limit, and that there is an ErrLimit above.
func checkLimit(t *testing.T, what any, limit int, make func(n int) api.Program) {
	t.Helper()
	for _, n := range []int{limit - 1, limit} {
		checkTree(t, fmt.Sprint(what, ", ", n), make(n), api.OK)
	}
	for _, n := range []int{limit + 1, limit + 2, 2 * limit, 3*limit + 1} {
		checkTree(t, fmt.Sprint(what, ", ", n), make(n), api.ErrLimit)
	}
}

// checkExcess checks that there is an ErrLimit for make(n) if n is above the limit, and an ErrSyntax otherwise.
func checkExcess(t *testing.T, what any, limit int, make func(n int) api.Program) {
	t.Helper()
	checkTree(t, fmt.Sprint(what, ", ", limit), make(limit), api.ErrSyntax)
	checkTree(t, fmt.Sprint(what, ", ", limit+1), make(limit+1), api.ErrLimit)
}

func names(n int) []string {
	var l []string
	for i := range n {
		l = append(l, fmt.Sprint("n", i))
	}
	return l
}

// 4.1
func TestNumberOfArrays(t *testing.T) {
	checkLimit(t, "arrays", api.MaxArrays, func(n int) api.Program {
		var p api.Program
		for _, name := range names(n) {
			p.Arrays = append(p.Arrays, api.Array{Name: name, Len: 1})
		}
		return p
	})
}

// 4.1
func TestNumberOfFunctions(t *testing.T) {
	checkLimit(t, "functions", api.MaxFuncs, func(n int) api.Program {
		var p api.Program
		for _, name := range names(n) {
			p.Funcs = append(p.Funcs, api.Func{Name: name, Value: num(0)})
		}
		return p
	})
}

// eachFunction calls f with programs whose first or last functions have the given contents.
func eachFunction(f func(what string, make func(api.Func) api.Program)) {
	other := api.Func{Name: "other", Params: names(api.MaxParams), Value: num(0)}
	f("only function", func(g api.Func) api.Program { return api.Program{Funcs: []api.Func{g}} })
	f("first function", func(g api.Func) api.Program { return api.Program{Funcs: []api.Func{g, other}} })
	f("last function", func(g api.Func) api.Program { return api.Program{Funcs: []api.Func{other, g}} })
}

// 4.1
func TestNumberOfVariables(t *testing.T) {
	eachFunction(func(what string, make func(api.Func) api.Program) {
		checkLimit(t, what+": parameters", api.MaxParams, func(n int) api.Program {
			return make(api.Func{Name: "f", Params: names(n), Value: num(0)})
		})
		checkLimit(t, what+": local variables", api.MaxLocals, func(n int) api.Program {
			return make(api.Func{Name: "f", Locals: names(n), Value: num(0)})
		})
		all := names(api.MaxParams + api.MaxLocals)
		full := api.Func{Name: "f", Params: all[:api.MaxParams], Locals: all[api.MaxParams:], Value: num(0)}
		checkTree(t, what+": parameters and local variables", make(full), api.OK)
	})
}

// 4.1
func TestArrayLengths(t *testing.T) {
	for n := range api.MaxLen {
		checkTree(t, n+1, api.Program{Arrays: []api.Array{{Name: "x", Len: n + 1}}}, api.OK)
	}
	for _, n := range []int{0, -1, api.MaxLen + 1, -api.MaxLen, 100, math.MaxInt, math.MinInt, 1<<32 + 1, -1 << 32} {
		wrong := api.Array{Name: "x", Len: n}
		right := api.Array{Name: "y", Len: 1}
		checkTree(t, n, api.Program{Arrays: []api.Array{wrong}}, api.ErrLimit)
		checkTree(t, n, api.Program{Arrays: []api.Array{right, wrong}}, api.ErrLimit)
		checkTree(t, n, api.Program{Arrays: []api.Array{wrong, right}}, api.ErrLimit)
	}
}

func out() api.Stmt {
	return api.Stmt{Kind: api.StmtOut, Value: num(1)}
}

func loop(body ...api.Stmt) api.Stmt {
	return api.Stmt{Kind: api.StmtWhile, Value: num(1), Then: body}
}

func conditional(then, otherwise []api.Stmt) api.Stmt {
	return api.Stmt{Kind: api.StmtIf, Value: num(1), Then: then, Else: otherwise}
}

// spread is a list of n + 2 statements: two with the others inside them.
func spread(l []api.Stmt) []api.Stmt {
	a, b, c := l[:len(l)/4], l[len(l)/4:len(l)/2], l[len(l)/2:]
	return []api.Stmt{conditional(a, b), conditional(nil, c)}
}

// 4.1
func TestNumberOfStatements(t *testing.T) {
	for _, s := range []api.Stmt{
		out(), conditional(nil, nil), {Kind: api.StmtTrap}, {Kind: api.StmtAssign, Name: "p", Value: num(0)},
		{Kind: api.StmtStore, Name: "x", At: num(0), Value: num(0)}, {Kind: api.StmtCall, Name: "p", To: "g"},
	} {
		checkLimit(t, s, api.MaxStmts, func(n int) api.Program { return program(slices.Repeat([]api.Stmt{s}, n)...) })
		checkLimit(t, s, api.MaxStmts-2, func(n int) api.Program { return program(spread(slices.Repeat([]api.Stmt{s}, n))...) })
		checkLimit(t, s, api.MaxStmts-1, func(n int) api.Program { return program(loop(slices.Repeat([]api.Stmt{s}, n)...)) })
		checkLimit(t, s, api.MaxStmts-5, func(n int) api.Program {
			l := spread(slices.Repeat([]api.Stmt{s}, n))
			return program(out(), conditional(nil, []api.Stmt{loop(l...)}))
		})
	}
}

// 4.1: each function has its own limits.
func TestStatementsOfOtherFunctionsDoNotCount(t *testing.T) {
	p := program()
	for i := range p.Funcs {
		p.Funcs[i].Body = append(slices.Repeat([]api.Stmt{loop()}, api.MaxLoops), slices.Repeat([]api.Stmt{out()}, api.MaxStmts-api.MaxLoops)...)
	}
	checkTree(t, "two full functions", p, api.OK)
	for i := range p.Funcs {
		excess := program()
		excess.Funcs[i].Body = slices.Repeat([]api.Stmt{out()}, api.MaxStmts+1)
		checkTree(t, fmt.Sprint("too many statements in function ", i), excess, api.ErrLimit)
		excess.Funcs[i].Body = slices.Repeat([]api.Stmt{loop()}, api.MaxLoops+1)
		checkTree(t, fmt.Sprint("too many loops in function ", i), excess, api.ErrLimit)
	}
}

// 4.1
func TestNumberOfLoops(t *testing.T) {
	loops := func(n int) []api.Stmt { return slices.Repeat([]api.Stmt{loop()}, n) }
	checkLimit(t, "loops", api.MaxLoops, func(n int) api.Program { return program(loops(n)...) })
	checkLimit(t, "loops in a loop", api.MaxLoops-1, func(n int) api.Program { return program(loop(loops(n)...)) })
	checkLimit(t, "loops in Then and Else", api.MaxLoops, func(n int) api.Program { return program(spread(loops(n))...) })
	checkLimit(t, "loops before and after", api.MaxLoops-3, func(n int) api.Program {
		return program(loop(), conditional(nil, loops(n)), loop(loop()))
	})
	checkLimit(t, "nested loops", api.MaxLoops, func(n int) api.Program {
		var l []api.Stmt
		for range n {
			l = []api.Stmt{loop(l...)}
		}
		return program(l...)
	})
}

// statementKinds has all kinds of statements and some that do not exist.
func statementKinds() []int {
	return []int{
		math.MinInt, -1, 0, api.StmtAssign, api.StmtStore, api.StmtIf, api.StmtWhile, api.StmtOut, api.StmtCall, api.StmtTrap,
		api.StmtTrap + 1, math.MaxInt,
	}
}

// nest puts a list of statements into n statements that make has made.
func nest(n int, l []api.Stmt, make func(l []api.Stmt) api.Stmt) []api.Stmt {
	for range n {
		l = []api.Stmt{make(l)}
	}
	return l
}

// 4.1
func TestNestingOfStatements(t *testing.T) {
	inThen := func(l []api.Stmt) api.Stmt { return conditional(l, nil) }
	inElse := func(l []api.Stmt) api.Stmt { return conditional(nil, l) }
	amongOthers := func(l []api.Stmt) api.Stmt {
		return conditional([]api.Stmt{out()}, slices.Concat([]api.Stmt{out()}, l, []api.Stmt{out()}))
	}
	checkLimit(t, "Then", api.MaxDeep, func(n int) api.Program { return program(nest(n, []api.Stmt{out()}, inThen)...) })
	checkLimit(t, "Else", api.MaxDeep, func(n int) api.Program { return program(nest(n, []api.Stmt{out()}, inElse)...) })
	checkLimit(t, "between statements", api.MaxDeep, func(n int) api.Program {
		return program(nest(n, []api.Stmt{out()}, amongOthers)...)
	})
	checkLimit(t, "Then and Else", api.MaxDeep-7, func(n int) api.Program {
		return program(nest(4, nest(n, nest(3, []api.Stmt{out()}, inElse), inThen), inElse)...)
	})
	checkLimit(t, "loops in Then", api.MaxDeep-10, func(n int) api.Program {
		return program(nest(n, nest(10, []api.Stmt{out()}, func(l []api.Stmt) api.Stmt { return loop(l...) }), inThen)...)
	})
	checkLimit(t, "side by side", api.MaxDeep, func(n int) api.Program {
		return program(slices.Concat(nest(n, []api.Stmt{out()}, inThen), nest(n, []api.Stmt{out()}, inElse))...)
	})
}

// 4.1: statements in Then and Else count, whatever the kind of the statement around them.
func TestStatementsInOtherKinds(t *testing.T) {
	for _, kind := range statementKinds() {
		containers := map[string]func(l []api.Stmt) api.Stmt{
			"Then": func(l []api.Stmt) api.Stmt { return api.Stmt{Kind: kind, Then: l} },
			"Else": func(l []api.Stmt) api.Stmt { return api.Stmt{Kind: kind, Else: l} },
		}
		for what, contain := range containers {
			what = fmt.Sprint(what, " of a statement of kind ", kind)
			checkExcess(t, "statements in "+what, api.MaxStmts-1, func(n int) api.Program {
				return program(contain(slices.Repeat([]api.Stmt{out()}, n)))
			})
			loops := api.MaxLoops
			if kind == api.StmtWhile {
				loops--
			}
			checkExcess(t, "loops in "+what, loops, func(n int) api.Program {
				return program(contain(slices.Repeat([]api.Stmt{loop()}, n)))
			})
			if kind != api.StmtWhile {
				checkExcess(t, "nesting in "+what, api.MaxDeep, func(n int) api.Program { return program(nest(n, []api.Stmt{{}}, contain)...) })
			}
		}
	}
}

// expressionKinds has all kinds of expressions and some that do not exist.
func expressionKinds() []int {
	return []int{
		math.MinInt, -1, 0, api.ExprNum, api.ExprVar, api.ExprIndex, api.ExprOp, api.ExprCond, api.ExprCond + 1, math.MaxInt,
	}
}

// wrap puts an expression into n others that make has made.
func wrap(n int, e api.Expr, make func(e api.Expr) api.Expr) api.Expr {
	for range n {
		e = make(e)
	}
	return e
}

// wrappers has the places of a valid expression for another one.
func wrappers() map[string]func(e api.Expr) api.Expr {
	return map[string]func(e api.Expr) api.Expr{
		"-":         func(e api.Expr) api.Expr { return operation(api.OpNeg, e) },
		"~":         func(e api.Expr) api.Expr { return operation(api.OpNot, e) },
		"left":      func(e api.Expr) api.Expr { return operation(api.OpSub, e, num(1)) },
		"right":     func(e api.Expr) api.Expr { return operation(api.OpLe, num(1), e) },
		"element":   func(e api.Expr) api.Expr { return element("x", e) },
		"condition": func(e api.Expr) api.Expr { return choice(e, num(1), num(2)) },
		"first":     func(e api.Expr) api.Expr { return choice(num(1), e, num(2)) },
		"second":    func(e api.Expr) api.Expr { return choice(num(1), num(2), e) },
	}
}

// places has statements with an expression at each place where there may be one.
func places() map[string]func(e api.Expr) api.Stmt {
	return map[string]func(e api.Expr) api.Stmt{
		"assignment": func(e api.Expr) api.Stmt { return api.Stmt{Kind: api.StmtAssign, Name: "p", Value: e} },
		"index":      func(e api.Expr) api.Stmt { return api.Stmt{Kind: api.StmtStore, Name: "x", At: e, Value: num(1)} },
		"cell":       func(e api.Expr) api.Stmt { return api.Stmt{Kind: api.StmtStore, Name: "x", At: num(1), Value: e} },
		"if":         func(e api.Expr) api.Stmt { return api.Stmt{Kind: api.StmtIf, Value: e} },
		"while":      func(e api.Expr) api.Stmt { return api.Stmt{Kind: api.StmtWhile, Value: e} },
		"out":        func(e api.Expr) api.Stmt { return api.Stmt{Kind: api.StmtOut, Value: e} },
		"first argument": func(e api.Expr) api.Stmt {
			return api.Stmt{Kind: api.StmtCall, Name: "p", To: "f", Args: []api.Expr{e, num(1)}}
		},
		"last argument": func(e api.Expr) api.Stmt {
			return api.Stmt{Kind: api.StmtCall, Name: "p", To: "f", Args: []api.Expr{num(1), e}}
		},
		"in Then": func(e api.Expr) api.Stmt {
			return conditional([]api.Stmt{out(), {Kind: api.StmtOut, Value: e}, out()}, []api.Stmt{out()})
		},
		"in Else": func(e api.Expr) api.Stmt {
			return conditional([]api.Stmt{out()}, []api.Stmt{out(), {Kind: api.StmtOut, Value: e}, out()})
		},
	}
}

// eachPlace calls f with programs that have an expression at each place where there may be one.
func eachPlace(f func(what string, make func(e api.Expr) api.Program)) {
	f("value", returning)
	f("value of the last function", func(e api.Expr) api.Program {
		p := program()
		p.Funcs[0], p.Funcs[1] = p.Funcs[1], p.Funcs[0]
		p.Funcs[1].Value = e
		return p
	})
	for what, place := range places() {
		f(what, func(e api.Expr) api.Program { return program(place(e)) })
		f(what+", between other statements", func(e api.Expr) api.Program { return program(out(), place(e), out()) })
	}
}

// 4.1
func TestNestingOfExpressions(t *testing.T) {
	for kind, wrapper := range wrappers() {
		eachPlace(func(place string, make func(e api.Expr) api.Program) {
			checkLimit(t, kind+" in "+place, api.MaxDeep, func(n int) api.Program { return make(wrap(n, variable("p"), wrapper)) })
		})
		for inner, other := range wrappers() {
			checkLimit(t, kind+" around "+inner, api.MaxDeep-7, func(n int) api.Program {
				return returning(wrap(4, wrap(n, wrap(3, num(1), wrapper), other), wrapper))
			})
		}
	}
}

// 4.1: an expression is not nested in another expression of its statement, nor in a statement.
func TestExpressionsAreNestedInTheirOwnNodes(t *testing.T) {
	deep := wrap(api.MaxDeep, num(1), wrappers()["-"])
	checkTree(t, "index and cell", program(api.Stmt{Kind: api.StmtStore, Name: "x", At: deep, Value: deep}), api.OK)
	checkTree(t, "arguments", program(api.Stmt{Kind: api.StmtCall, Name: "p", To: "f", Args: []api.Expr{deep, deep}}), api.OK)
	inner := []api.Stmt{{Kind: api.StmtOut, Value: deep}}
	nested := nest(api.MaxDeep, inner, func(l []api.Stmt) api.Stmt {
		return api.Stmt{Kind: api.StmtIf, Value: deep, Then: l}
	})
	checkTree(t, "nested statements", program(nested...), api.OK)
}

// 4.1: Kids, At, Value and Args count, whatever the kind.
func TestExpressionsInOtherKinds(t *testing.T) {
	for _, kind := range expressionKinds() {
		alone := func(e api.Expr) api.Expr { return api.Expr{Kind: kind, Kids: []api.Expr{e}} }
		last := func(e api.Expr) api.Expr {
			return api.Expr{Kind: kind, Kids: append(slices.Repeat([]api.Expr{{}}, 9), e)}
		}
		checkExcess(t, kind, api.MaxDeep, func(n int) api.Program { return returning(wrap(n, api.Expr{}, alone)) })
		checkExcess(t, kind, api.MaxDeep, func(n int) api.Program { return returning(wrap(n, api.Expr{}, last)) })
	}
	for _, kind := range statementKinds() {
		fields := map[string]func(e api.Expr) api.Stmt{
			"At":    func(e api.Expr) api.Stmt { return api.Stmt{Kind: kind, At: e} },
			"Value": func(e api.Expr) api.Stmt { return api.Stmt{Kind: kind, Value: e} },
			"Args":  func(e api.Expr) api.Stmt { return api.Stmt{Kind: kind, Args: []api.Expr{e}} },
			"last of Args": func(e api.Expr) api.Stmt {
				return api.Stmt{Kind: kind, Args: append(slices.Repeat([]api.Expr{{}}, 9), e)}
			},
		}
		for what, field := range fields {
			what = fmt.Sprint(what, " of a statement of kind ", kind)
			make := func(n int) api.Stmt { return field(wrap(n, api.Expr{}, wrappers()["-"])) }
			checkExcess(t, what, api.MaxDeep, func(n int) api.Program { return program(make(n)) })
			checkExcess(t, what+", inside", api.MaxDeep, func(n int) api.Program { return program(out(), api.Stmt{Else: []api.Stmt{make(n)}}) })
		}
	}
}
