package checker_test

import (
	"reflect"
	"slices"
	"strings"
	"testing"

	"fulling/api"
	"fulling/checker"
)

// R1: nesting as deep as the document's limits permit
func TestDeepPrograms(t *testing.T) {
	const deep = 1 << 16
	for what, wrapper := range wrappers() {
		checkTree(t, what, returning(wrap(deep, num(1), wrapper)), api.ErrLimit)
	}
	checkTree(t, "statements in Then", program(nest(deep, nil, func(l []api.Stmt) api.Stmt { return conditional(l, nil) })...), api.ErrLimit)
	checkTree(t, "statements in Else", program(nest(deep, nil, func(l []api.Stmt) api.Stmt { return conditional(nil, l) })...), api.ErrLimit)
	text := "func f() { return " + strings.Repeat("(", 9000) + "1" + strings.Repeat(")", 9000) + "; }"
	checkText(t, text, api.OK)
	checkText(t, "func f() { return "+strings.Repeat("-", 19000)+"1; }", api.ErrLimit)
}

// R1: long lists
func TestLargePrograms(t *testing.T) {
	const large = 200000
	checkTree(t, "arrays", api.Program{Arrays: make([]api.Array, large)}, api.ErrLimit)
	checkTree(t, "functions", api.Program{Funcs: make([]api.Func, large)}, api.ErrLimit)
	checkTree(t, "parameters", api.Program{Funcs: []api.Func{{Params: make([]string, large)}}}, api.ErrLimit)
	checkTree(t, "local variables", api.Program{Funcs: []api.Func{{Locals: make([]string, large)}}}, api.ErrLimit)
	checkTree(t, "statements", program(make([]api.Stmt, large)...), api.ErrLimit)
	checkTree(t, "statements in Else", program(api.Stmt{Else: make([]api.Stmt, large)}), api.ErrLimit)
	checkTree(t, "kids", returning(api.Expr{Kids: make([]api.Expr, large)}), api.ErrSyntax)
	checkTree(t, "operands", returning(operation(api.OpAdd, slices.Repeat([]api.Expr{num(1)}, large)...)), api.ErrSyntax)
	args := slices.Repeat([]api.Expr{num(1)}, large)
	checkTree(t, "arguments", program(api.Stmt{Kind: api.StmtCall, Name: "p", To: "f", Args: args}), api.ErrArity)
	checkTree(t, "long name", returning(variable(strings.Repeat("a", 1<<24))), api.ErrSyntax)
	tree := variable("p")
	for range 16 {
		tree = operation(api.OpAdd, tree, tree)
	}
	checkTree(t, "expression", returning(tree), api.OK)
}

// R1: slices that contain themselves
func TestCyclicPrograms(t *testing.T) {
	kids := []api.Expr{num(0), operation(api.OpAdd), num(1)}
	kids[1].Kids = kids
	checkTree(t, "kids", returning(operation(api.OpAdd, kids...)), api.ErrLimit)
	checkTree(t, "arguments", program(api.Stmt{Kind: api.StmtCall, Name: "p", To: "f", Args: kids}), api.ErrLimit)
	for _, kind := range statementKinds() {
		body := []api.Stmt{out(), {Kind: kind, Value: num(0)}, out()}
		body[1].Then = body
		checkTree(t, "Then", program(body...), api.ErrLimit)
		body = []api.Stmt{out(), {Kind: kind, Value: num(0)}, out()}
		body[1].Else = body
		checkTree(t, "Else", program(body...), api.ErrLimit)
	}
}

// roomy returns a copy of a list with further elements in its unused capacity.
func roomy[T any](l []T, unused T) []T {
	return append(slices.Clone(l), unused, unused, unused)[:len(l)]
}

func roomyExpr(e api.Expr) api.Expr {
	var kids []api.Expr
	for _, kid := range e.Kids {
		kids = append(kids, roomyExpr(kid))
	}
	e.Kids = roomy(kids, variable("unused"))
	return e
}

func roomyStmts(l []api.Stmt) []api.Stmt {
	var copied []api.Stmt
	for _, s := range l {
		var args []api.Expr
		for _, e := range s.Args {
			args = append(args, roomyExpr(e))
		}
		s.At, s.Value, s.Args = roomyExpr(s.At), roomyExpr(s.Value), roomy(args, variable("unused"))
		s.Then, s.Else = roomyStmts(s.Then), roomyStmts(s.Else)
		copied = append(copied, s)
	}
	return roomy(copied, api.Stmt{Kind: api.StmtOut, Value: variable("unused")})
}

// roomyProgram copies a program so that all its slices have unused capacity.
func roomyProgram(p api.Program) api.Program {
	var funcs []api.Func
	for _, f := range p.Funcs {
		f.Params, f.Locals = roomy(f.Params, "unused"), roomy(f.Locals, "unused")
		f.Body, f.Value = roomyStmts(f.Body), roomyExpr(f.Value)
		funcs = append(funcs, f)
	}
	return api.Program{Arrays: roomy(p.Arrays, api.Array{Name: "unused", Len: 1}), Funcs: roomy(funcs, api.Func{Name: "unused"})}
}

// revealUnused makes the unused capacity of all slices a part of them.
func revealUnused(v reflect.Value) {
	switch v.Kind() {
	case reflect.Struct:
		for i := range v.NumField() {
			revealUnused(v.Field(i))
		}
	case reflect.Slice:
		for i := range v.Len() {
			revealUnused(v.Index(i))
		}
		v.SetLen(v.Cap())
	}
}

// R2, R4
func TestArgumentsAreNotChanged(t *testing.T) {
	programs := []api.Program{
		parse(t, "array x 4; array y 1; func f(p, q) var v, w { v = f(p, x[q]); while (v < 3) { x[v] = v; if (p) { out y[0]; } else { trap 3; } } return p ? q : v; } func g() { return -1; }"),
	}
	for _, faults := range faultsInOrder() {
		for _, f := range faults {
			_, p := faulty(f)
			programs = append(programs, p)
		}
	}
	for i, p := range programs {
		used, kept := roomyProgram(p), roomyProgram(p)
		first, second := checker.Check(used), checker.Check(used)
		if first != second || first != checker.Check(p) {
			t.Errorf("program %d: different results", i)
		}
		revealUnused(reflect.ValueOf(&used).Elem())
		revealUnused(reflect.ValueOf(&kept).Elem())
		if !reflect.DeepEqual(used, kept) {
			t.Errorf("program %d is changed", i)
		}
	}
}
