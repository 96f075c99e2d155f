package checker_test

import (
	"fmt"
	"slices"
	"testing"

	"fulling/api"
)

// fault adds an error to a program that has room for it. It does not touch what the other faults add.
type fault struct {
	name string
	why  api.Errno
	add  func(p *api.Program)
}

// statementFault appends a statement to f.
func statementFault(name string, why api.Errno, s api.Stmt) fault {
	return fault{name, why, func(p *api.Program) { p.Funcs[0].Body = append(p.Funcs[0].Body, s) }}
}

// functionFault puts a function before or behind the others.
func functionFault(name string, why api.Errno, first bool, f api.Func) fault {
	return fault{name, why, func(p *api.Program) {
		if first {
			p.Funcs = append([]api.Func{f}, p.Funcs...)
		} else {
			p.Funcs = append(p.Funcs, f)
		}
	}}
}

func limitFaults() []fault {
	deep := wrap(api.MaxDeep+1, num(1), wrappers()["-"])
	return []fault{
		{"length", api.ErrLimit, func(p *api.Program) { p.Arrays = append(p.Arrays, api.Array{Name: "long", Len: 17}) }},
		functionFault("parameters", api.ErrLimit, false, api.Func{Name: "limit1", Params: names(api.MaxParams + 1), Value: num(0)}),
		functionFault("locals", api.ErrLimit, true, api.Func{Name: "limit2", Locals: names(api.MaxLocals + 1), Value: num(0)}),
		functionFault("value", api.ErrLimit, false, api.Func{Name: "limit3", Value: deep}),
		statementFault("statements", api.ErrLimit, conditional(nil, slices.Repeat([]api.Stmt{out()}, api.MaxStmts))),
		statementFault("loops", api.ErrLimit, conditional(slices.Repeat([]api.Stmt{loop()}, api.MaxLoops+1), nil)),
		statementFault("unused value", api.ErrLimit, api.Stmt{Kind: api.StmtTrap, Value: deep}),
		statementFault("nesting", api.ErrLimit, nest(api.MaxDeep+1, []api.Stmt{out()}, func(l []api.Stmt) api.Stmt { return conditional(l, nil) })[0]),
	}
}

func syntaxFaults() []fault {
	return []fault{
		{"array", api.ErrSyntax, func(p *api.Program) { p.Arrays = append(p.Arrays, api.Array{Name: "1", Len: 1}) }},
		functionFault("function", api.ErrSyntax, false, api.Func{Name: "if", Value: num(0)}),
		functionFault("parameter", api.ErrSyntax, true, api.Func{Name: "syntax1", Params: []string{"out"}, Value: num(0)}),
		functionFault("no value", api.ErrSyntax, false, api.Func{Name: "syntax2"}),
		statementFault("kind", api.ErrSyntax, api.Stmt{Kind: 8}),
		statementFault("trap", api.ErrSyntax, conditional(nil, []api.Stmt{{Kind: api.StmtTrap, N: 1000001}})),
		statementFault("operation", api.ErrSyntax, api.Stmt{Kind: api.StmtOut, Value: operation(api.OpAdd, num(1), operation(api.OpLtu, num(1), num(2)))}),
		statementFault("called function", api.ErrSyntax, api.Stmt{Kind: api.StmtCall, Name: "p", To: ""}),
	}
}

func duplicateFaults() []fault {
	return []fault{
		{"array", api.ErrDuplicate, func(p *api.Program) { p.Arrays = append(p.Arrays, api.Array{Name: "x", Len: 1}) }},
		functionFault("function", api.ErrDuplicate, true, api.Func{Name: "g", Value: num(0)}),
		functionFault("parameter", api.ErrDuplicate, true, api.Func{Name: "duplicate1", Params: []string{"a", "a"}, Value: num(0)}),
		functionFault("local", api.ErrDuplicate, false, api.Func{Name: "duplicate2", Params: []string{"a"}, Locals: []string{"a"}, Value: num(0)}),
		functionFault("name of an array", api.ErrDuplicate, false, api.Func{Name: "duplicate3", Locals: []string{"x"}, Value: num(0)}),
	}
}

func undefinedFaults() []fault {
	return []fault{
		functionFault("value", api.ErrUndefined, true, api.Func{Name: "undefined1", Value: variable("p")}),
		functionFault("element", api.ErrUndefined, false, api.Func{Name: "undefined2", Value: element("p", num(0))}),
		statementFault("assignment", api.ErrUndefined, conditional(nil, []api.Stmt{{Kind: api.StmtAssign, Name: "x", Value: num(0)}})),
		statementFault("store", api.ErrUndefined, api.Stmt{Kind: api.StmtStore, Name: "p", At: num(0), Value: num(0)}),
		statementFault("call", api.ErrUndefined, api.Stmt{Kind: api.StmtCall, Name: "p", To: "nowhere"}),
		statementFault("argument", api.ErrUndefined, api.Stmt{Kind: api.StmtCall, Name: "p", To: "f", Args: []api.Expr{variable("p"), variable("x")}}),
	}
}

func arityFaults() []fault {
	call := func(n int) api.Stmt {
		return api.Stmt{Kind: api.StmtCall, Name: "p", To: "f", Args: slices.Repeat([]api.Expr{num(0)}, n)}
	}
	return []fault{
		functionFault("first function", api.ErrArity, true, api.Func{Name: "arity1", Params: []string{"p"}, Body: []api.Stmt{call(0)}, Value: num(0)}),
		functionFault("last function", api.ErrArity, false, api.Func{Name: "arity2", Params: []string{"p"}, Body: []api.Stmt{call(1)}, Value: num(0)}),
		statementFault("call", api.ErrArity, call(3)),
		statementFault("nested call", api.ErrArity, loop(conditional(nil, []api.Stmt{call(7)}))),
	}
}

// faultsInOrder has the faults of each error of the chapter, in its order.
func faultsInOrder() [][]fault {
	return [][]fault{limitFaults(), syntaxFaults(), duplicateFaults(), undefinedFaults(), arityFaults()}
}

// faulty is a program with faults that are added in this order.
func faulty(faults ...fault) (string, api.Program) {
	p := program(out())
	what := ""
	for _, f := range faults {
		f.add(&p)
		what += fmt.Sprint(" ", f.name, " ", f.why)
	}
	return what, p
}

// 4.1
func TestFaults(t *testing.T) {
	for _, faults := range faultsInOrder() {
		for _, f := range faults {
			what, p := faulty(f)
			checkTree(t, what, p, f.why)
		}
	}
}

// 4.1: the first error of the list is reported, wherever the others are.
func TestOrderOfErrors(t *testing.T) {
	order := faultsInOrder()
	for i, earlier := range order {
		for _, later := range order[i+1:] {
			for _, e := range earlier {
				for _, l := range later {
					what, p := faulty(e, l)
					checkTree(t, what, p, e.why)
					what, p = faulty(l, e)
					checkTree(t, what, p, e.why)
				}
			}
		}
	}
}

// 4.1
func TestOrderOfAllErrors(t *testing.T) {
	order := faultsInOrder()
	for i := range order {
		var all []fault
		for j := len(order) - 1; j >= i; j-- {
			all = append(all, order[j][i%len(order[j])])
		}
		what, p := faulty(all...)
		checkTree(t, what, p, order[i][0].why)
		slices.Reverse(all)
		what, p = faulty(all...)
		checkTree(t, what, p, order[i][0].why)
	}
}

// 4.1: one part of a program with several errors
func TestErrorsOfOnePart(t *testing.T) {
	checkTree(t, "name and length of an array", api.Program{Arrays: []api.Array{{Name: "1"}}}, api.ErrLimit)
	checkTree(t, "equal names that are no names", api.Program{Arrays: []api.Array{{Name: "1", Len: 1}, {Name: "1", Len: 1}}}, api.ErrSyntax)
	checkTree(t, "too many variables of the same name",
		api.Program{Funcs: []api.Func{{Name: "f", Params: slices.Repeat([]string{"a"}, api.MaxParams+1), Value: num(0)}}}, api.ErrLimit)
	checkTree(t, "equal functions with undefined names",
		api.Program{Funcs: slices.Repeat([]api.Func{{Name: "f", Value: variable("a")}}, 2)}, api.ErrDuplicate)
	checkTree(t, "undefined variable and arity of a call",
		program(api.Stmt{Kind: api.StmtCall, Name: "a", To: "f"}), api.ErrUndefined)
	checkTree(t, "undefined argument and arity of a call",
		program(api.Stmt{Kind: api.StmtCall, Name: "p", To: "f", Args: []api.Expr{variable("a")}}), api.ErrUndefined)
	checkTree(t, "undefined function and arguments",
		program(api.Stmt{Kind: api.StmtCall, Name: "p", To: "h", Args: []api.Expr{num(0)}}), api.ErrUndefined)
}
