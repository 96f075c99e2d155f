package checker_test

import (
	"fmt"
	"math"
	"slices"
	"strings"
	"testing"

	"fulling/api"
)

func reservedWords() []string {
	return []string{"array", "func", "var", "return", "if", "else", "while", "out", "trap"}
}

// invalidNames has texts that are no names, also such as the parser would accept as a name and something else.
func invalidNames() []string {
	return append(reservedWords(),
		"", " ", "\t", "\n", "\x00", "#", "-", "+", "0", "1", "1a", "9", "0_", " a", "a ", "a\n", "a\t", "\ra", "a b", "a\nb",
		"a-b", "a+", "-a", "a;", "a,b", "(a)", "a[0]", "a.b", "a$", "a\x00", "a#", "a#b", "# a", "#\na", "a#\n",
		"a 1;", "a 1; array b", "a 1;#", "a 1; func f() { return 0; } array b", "a 1; array a", "1; array a",
		"é", "aé", "ä", "а", "a\u00a0", "\u200ba", "a\xff", "\xffa",
		"abcdefghijklmnopq", "aaaaaaaaaaaaaaaaaaaaaaaaaaaaaaaaa", strings.Repeat("a", 20000), strings.Repeat(" ", 20000),
	)
}

func validNames() []string {
	return []string{
		"a", "z", "A", "Z", "_", "__", "_0", "a1", "m_2", "Array", "ARRAY", "arrays", "_array", "iff", "If", "i", "fun", "function",
		"tra", "traps", "outs", "returns", "va", "vars", "Else", "els", "whil", "While", "abcdefghijklmnop", "________________",
		"A123456789012345", "returnreturnretu",
	}
}

// checkName checks that a program is valid with a name exactly where there may be one.
func checkName(t *testing.T, what string, valid api.Errno, make func(name string) api.Program) {
	t.Helper()
	for _, name := range invalidNames() {
		checkTree(t, fmt.Sprintf("%s %.40q", what, name), make(name), api.ErrSyntax)
	}
	for _, name := range validNames() {
		checkTree(t, fmt.Sprintf("%s %q", what, name), make(name), valid)
	}
}

// 4.1
func TestNamesOfDeclarations(t *testing.T) {
	checkName(t, "array", api.OK, func(name string) api.Program {
		return api.Program{Arrays: []api.Array{{Name: "other", Len: 1}, {Name: name, Len: 1}}}
	})
	checkName(t, "function", api.OK, func(name string) api.Program {
		return api.Program{Funcs: []api.Func{{Name: "other", Value: num(0)}, {Name: name, Value: num(0)}}}
	})
	checkName(t, "parameter", api.OK, func(name string) api.Program {
		return api.Program{Funcs: []api.Func{{Name: "f", Params: []string{"b", name}, Locals: []string{"c"}, Value: num(0)}}}
	})
	checkName(t, "local variable", api.OK, func(name string) api.Program {
		return api.Program{Funcs: []api.Func{{Name: "f", Params: []string{"b"}, Locals: []string{"c", name}, Value: num(0)}}}
	})
}

// 4.1: a name that is not defined is an ErrSyntax if it is not a name.
func TestNamesThatAreUsed(t *testing.T) {
	checkName(t, "variable", api.ErrUndefined, func(name string) api.Program { return returning(variable(name)) })
	checkName(t, "inner variable", api.ErrUndefined, func(name string) api.Program {
		return returning(operation(api.OpAdd, variable("p"), variable(name)))
	})
	checkName(t, "element", api.ErrUndefined, func(name string) api.Program { return returning(element(name, num(0))) })
	checkName(t, "assignment", api.ErrUndefined, func(name string) api.Program {
		return program(api.Stmt{Kind: api.StmtAssign, Name: name, Value: num(0)})
	})
	checkName(t, "store", api.ErrUndefined, func(name string) api.Program {
		return program(api.Stmt{Kind: api.StmtStore, Name: name, At: num(0), Value: num(0)})
	})
	checkName(t, "result", api.ErrUndefined, func(name string) api.Program {
		return program(api.Stmt{Kind: api.StmtCall, Name: name, To: "g"})
	})
	checkName(t, "called function", api.ErrUndefined, func(name string) api.Program {
		return program(api.Stmt{Kind: api.StmtCall, Name: "p", To: name})
	})
}

// 4.1: all names of one or two bytes
func TestShortNames(t *testing.T) {
	letters := "abcdefghijklmnopqrstuvwxyzABCDEFGHIJKLMNOPQRSTUVWXYZ_"
	check := func(name string, valid bool) {
		want := api.ErrSyntax
		if valid {
			want = api.OK
		}
		checkTree(t, fmt.Sprintf("%q", name), api.Program{Arrays: []api.Array{{Name: name, Len: 1}}}, want)
	}
	for b := range 256 {
		first := string([]byte{byte(b)})
		isFirst := strings.Contains(letters, first)
		isOther := strings.Contains(letters+"0123456789", first)
		check(first, isFirst)
		check(first+"b", isFirst)
		check("a"+first, isOther)
		check("a"+first+"b", isOther)
	}
}

// statementField is a field of statements with values that are not zero.
type statementField struct {
	name   string
	usedBy []int
	set    []func(s *api.Stmt)
}

// setters returns functions that set a field to one of the values.
func setters[T any](set func(s *api.Stmt, value T), values ...T) []func(s *api.Stmt) {
	var l []func(s *api.Stmt)
	for _, value := range values {
		l = append(l, func(s *api.Stmt) { set(s, value) })
	}
	return l
}

func statementFields() []statementField {
	names := append(invalidNames()[len(reservedWords())+1:], "a", "f", "p", "x", "if")
	ns := []int{1, -1, 16, 1000000, 1000001, math.MaxInt, math.MinInt}
	// The last ones have a single field that is not zero.
	expressions := append(validExpressions(), []api.Expr{
		{Kind: 1}, {Kind: -1}, {N: 1}, {N: -1}, {Name: "a"}, {Name: " "}, {Op: 1}, {Op: api.OpNeg}, {Kids: []api.Expr{{}}},
	}...)
	args := [][]api.Expr{{num(0)}, {variable("p")}, {num(0), num(1)}, {{}}, {{}, num(0)}}
	lists := [][]api.Stmt{{out()}, {out(), out()}, {loop()}, {{}}, {{Kind: api.StmtTrap}}}
	return []statementField{
		{"Name", []int{api.StmtAssign, api.StmtStore, api.StmtCall}, setters(func(s *api.Stmt, name string) { s.Name = name }, names...)},
		{"To", []int{api.StmtCall}, setters(func(s *api.Stmt, name string) { s.To = name }, names...)},
		{"N", []int{api.StmtTrap}, setters(func(s *api.Stmt, n int) { s.N = n }, ns...)},
		{"At", []int{api.StmtStore}, setters(func(s *api.Stmt, e api.Expr) { s.At = e }, expressions...)},
		{"Value", []int{api.StmtAssign, api.StmtStore, api.StmtIf, api.StmtWhile, api.StmtOut},
			setters(func(s *api.Stmt, e api.Expr) { s.Value = e }, expressions...)},
		{"Args", []int{api.StmtCall}, setters(func(s *api.Stmt, l []api.Expr) { s.Args = l }, args...)},
		{"Then", []int{api.StmtIf, api.StmtWhile}, setters(func(s *api.Stmt, l []api.Stmt) { s.Then = l }, lists...)},
		{"Else", []int{api.StmtIf}, setters(func(s *api.Stmt, l []api.Stmt) { s.Else = l }, lists...)},
	}
}

// validStatements has statements of each kind.
func validStatements() []api.Stmt {
	return []api.Stmt{
		{Kind: api.StmtAssign, Name: "p", Value: num(0)},
		{Kind: api.StmtAssign, Name: "v", Value: variable("q")},
		{Kind: api.StmtStore, Name: "x", At: num(0), Value: num(0)},
		{Kind: api.StmtIf, Value: num(0)},
		{Kind: api.StmtIf, Value: num(0), Then: []api.Stmt{out()}},
		{Kind: api.StmtIf, Value: num(0), Else: []api.Stmt{out()}},
		{Kind: api.StmtIf, Value: num(0), Then: []api.Stmt{out()}, Else: []api.Stmt{out()}},
		{Kind: api.StmtWhile, Value: num(0)},
		{Kind: api.StmtWhile, Value: num(0), Then: []api.Stmt{out()}},
		{Kind: api.StmtOut, Value: num(0)},
		{Kind: api.StmtCall, Name: "p", To: "g"},
		{Kind: api.StmtCall, Name: "p", To: "f", Args: []api.Expr{num(0), num(1)}},
		{Kind: api.StmtTrap},
		{Kind: api.StmtTrap, N: 5},
	}
}

// checkStatement checks a statement at several places of a program.
func checkStatement(t *testing.T, what string, s api.Stmt, want api.Errno) {
	t.Helper()
	checkTree(t, fmt.Sprint(what, ": ", s), program(s), want)
	checkTree(t, fmt.Sprint(what, " at the end: ", s), program(out(), s), want)
	checkTree(t, fmt.Sprint(what, " in a loop: ", s), program(loop(out(), s, out())), want)
	checkTree(t, fmt.Sprint(what, " in Else: ", s), program(conditional(nil, []api.Stmt{s, out()})), want)
	p := program()
	p.Funcs[0], p.Funcs[1] = p.Funcs[1], p.Funcs[0]
	p.Funcs[1].Body = []api.Stmt{s}
	checkTree(t, fmt.Sprint(what, " in the last function: ", s), p, want)
}

// 4.1
func TestFieldsThatAreNotUsed(t *testing.T) {
	for _, s := range validStatements() {
		checkStatement(t, "valid", s, api.OK)
		for _, field := range statementFields() {
			if slices.Contains(field.usedBy, s.Kind) {
				continue
			}
			for _, set := range field.set {
				changed := s
				set(&changed)
				checkStatement(t, field.name, changed, api.ErrSyntax)
			}
		}
	}
}

// 4.1: a name or an expression that is used cannot be empty.
func TestFieldsThatAreUsed(t *testing.T) {
	for _, s := range validStatements() {
		for what, clear := range map[string]func(s *api.Stmt){
			"Name":  func(s *api.Stmt) { s.Name = "" },
			"To":    func(s *api.Stmt) { s.To = "" },
			"At":    func(s *api.Stmt) { s.At = api.Expr{} },
			"Value": func(s *api.Stmt) { s.Value = api.Expr{} },
		} {
			changed := s
			clear(&changed)
			want := api.OK
			for _, field := range statementFields() {
				if field.name == what && slices.Contains(field.usedBy, s.Kind) {
					want = api.ErrSyntax
				}
			}
			checkStatement(t, "no "+what, changed, want)
		}
	}
}

// 4.1: each element of Args is an expression.
func TestArgs(t *testing.T) {
	for n := range 9 {
		for i := range n {
			for _, wrong := range []api.Expr{{}, variable("a b"), {Kind: api.ExprNum, Op: 1}, operation(api.OpNeg)} {
				args := slices.Repeat([]api.Expr{num(0)}, n)
				args[i] = wrong
				checkStatement(t, "argument", api.Stmt{Kind: api.StmtCall, Name: "p", To: "f", Args: args}, api.ErrSyntax)
			}
		}
	}
}

// 4.1
func TestKindsOfStatements(t *testing.T) {
	for _, s := range append(validStatements(), api.Stmt{}) {
		for _, kind := range []int{math.MinInt, -7, -1, 0, api.StmtTrap + 1, 9, 100, math.MaxInt, 1<<32 + api.StmtTrap, -1<<32 + api.StmtOut} {
			s.Kind = kind
			checkStatement(t, "unknown kind", s, api.ErrSyntax)
		}
	}
}

// 4.1
func TestTrapCodes(t *testing.T) {
	for _, n := range []int{0, 1, 2, 16, 999999, 1000000} {
		checkStatement(t, "trap", api.Stmt{Kind: api.StmtTrap, N: n}, api.OK)
	}
	for _, n := range []int{-1, -2, -1000000, 1000001, 1 << 32, 1<<32 + 5, math.MaxInt, math.MinInt} {
		checkStatement(t, "trap", api.Stmt{Kind: api.StmtTrap, N: n}, api.ErrSyntax)
	}
}

// checkExpression checks an expression at all places of a program, and in other expressions.
func checkExpression(t *testing.T, what any, e api.Expr, want api.Errno) {
	t.Helper()
	eachPlace(func(place string, make func(e api.Expr) api.Program) {
		checkTree(t, fmt.Sprint(what, " in ", place, ": ", e), make(e), want)
	})
	for around, wrapper := range wrappers() {
		checkTree(t, fmt.Sprint(what, " in ", around, ": ", e), returning(wrapper(e)), want)
		checkTree(t, fmt.Sprint(what, " deep in ", around, ": ", e), returning(wrap(5, e, wrapper)), want)
	}
}

// binaryOperations has OpAdd to OpLe.
func binaryOperations() []int {
	return []int{
		api.OpAdd, api.OpSub, api.OpMul, api.OpDiv, api.OpRem, api.OpAnd, api.OpOr, api.OpXor, api.OpShl, api.OpShr, api.OpSar,
		api.OpEq, api.OpNe, api.OpLt, api.OpLe,
	}
}

// 4.1
func TestOperations(t *testing.T) {
	operands := []api.Expr{num(1), variable("p"), num(2), element("x", num(0)), num(3)}
	ops := []int{math.MinInt, 100, 1<<32 + api.OpAdd, math.MaxInt}
	for op := -2; op <= api.OpLoop+2; op++ {
		ops = append(ops, op)
	}
	for _, op := range ops {
		right := -1
		if slices.Contains(binaryOperations(), op) {
			right = 2
		} else if op == api.OpNeg || op == api.OpNot {
			right = 1
		}
		for n := range len(operands) + 1 {
			want := api.ErrSyntax
			if n == right {
				want = api.OK
			}
			checkExpression(t, "operation", operation(op, operands[:n]...), want)
		}
	}
}

// 4.1
func TestNumberOfKids(t *testing.T) {
	kids := []api.Expr{num(1), variable("p"), num(2), element("x", num(0)), num(3)}
	for n := range len(kids) + 1 {
		for right, e := range map[int]api.Expr{0: num(7), 1: {Kind: api.ExprIndex, Name: "x"}, 3: {Kind: api.ExprCond}} {
			want := api.ErrSyntax
			if n == right {
				want = api.OK
			}
			e.Kids = kids[:n]
			checkExpression(t, "kids", e, want)
		}
		want := api.ErrSyntax
		if n == 0 {
			want = api.OK
		}
		checkExpression(t, "kids", api.Expr{Kind: api.ExprVar, Name: "p", Kids: kids[:n]}, want)
	}
}

// validExpressions has expressions of each kind.
func validExpressions() []api.Expr {
	return []api.Expr{
		num(0), num(1), num(-1), num(math.MaxInt64), num(math.MinInt64), variable("p"), variable("v"), element("x", num(3)),
		operation(api.OpNeg, num(1)), operation(api.OpNeg, num(0)), operation(api.OpNot, variable("q")),
		operation(api.OpSub, num(1), num(2)), operation(api.OpEq, num(5), num(0)), choice(num(1), num(2), num(3)),
	}
}

// 4.1
func TestFieldsOfExpressions(t *testing.T) {
	for _, e := range validExpressions() {
		checkExpression(t, "valid", e, api.OK)
		for _, n := range []int64{1, -1, math.MaxInt64, math.MinInt64} {
			changed := e
			changed.N = n
			want := api.ErrSyntax
			if e.Kind == api.ExprNum {
				want = api.OK
			}
			checkExpression(t, "N", changed, want)
		}
		for _, op := range []int{-1, 1, api.OpConst, api.OpAdd, api.OpLtu, api.OpNeg, api.OpNot, api.OpSelect, 1000} {
			if e.Kind != api.ExprOp {
				changed := e
				changed.Op = op
				checkExpression(t, "Op", changed, api.ErrSyntax)
			}
		}
		for _, name := range append(invalidNames()[:12], "a", "f", "p", "x") {
			if e.Kind != api.ExprVar && e.Kind != api.ExprIndex && name != "" {
				changed := e
				changed.Name = name
				checkExpression(t, "Name", changed, api.ErrSyntax)
			}
		}
		for i := range e.Kids {
			changed := e
			changed.Kids = slices.Clone(e.Kids)
			changed.Kids[i] = api.Expr{}
			checkExpression(t, "zero kid", changed, api.ErrSyntax)
		}
	}
}

// 4.1
func TestKindsOfExpressions(t *testing.T) {
	for _, e := range append(validExpressions(), api.Expr{}) {
		for _, kind := range []int{math.MinInt, -5, -1, 0, api.ExprCond + 1, 7, 100, math.MaxInt, 1<<32 + api.ExprNum, -1<<32 + api.ExprVar} {
			e.Kind = kind
			checkExpression(t, "unknown kind", e, api.ErrSyntax)
		}
	}
}

// 4.1: the value of each function is an expression.
func TestValuesOfFunctions(t *testing.T) {
	for i := range 3 {
		p := api.Program{Funcs: []api.Func{{Name: "f", Value: num(0)}, {Name: "g", Value: num(0)}, {Name: "h", Value: num(0)}}}
		p.Funcs[i].Value = api.Expr{}
		checkTree(t, fmt.Sprint("no value of function ", i), p, api.ErrSyntax)
	}
}

// R2: a nil slice and an empty one are equivalent.
func TestEmptySlices(t *testing.T) {
	e := api.Expr{Kind: api.ExprNum, Kids: []api.Expr{}}
	zero := api.Expr{Kids: []api.Expr{}}
	full := func(s api.Stmt) api.Stmt {
		if s.Kind != api.StmtStore {
			s.At = zero
		}
		if s.Kind == api.StmtCall || s.Kind == api.StmtTrap {
			s.Value = zero
		} else {
			s.Value = e
		}
		if len(s.Args) == 0 {
			s.Args = []api.Expr{}
		}
		if len(s.Then) == 0 {
			s.Then = []api.Stmt{}
		}
		if len(s.Else) == 0 {
			s.Else = []api.Stmt{}
		}
		return s
	}
	for _, s := range validStatements() {
		checkStatement(t, "empty slices", full(s), api.OK)
	}
	checkTree(t, "empty slices", api.Program{Arrays: []api.Array{}, Funcs: []api.Func{}}, api.OK)
	f := api.Func{Name: "f", Params: []string{}, Locals: []string{}, Body: []api.Stmt{}, Value: e}
	checkTree(t, "empty slices", api.Program{Arrays: []api.Array{}, Funcs: []api.Func{f}}, api.OK)
}
