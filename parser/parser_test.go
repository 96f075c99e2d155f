package parser_test

import (
	"slices"
	"strings"
	"testing"

	"fulling/api"
	"fulling/parser"
)

func num(n int64) api.Expr {
	return api.Expr{Kind: api.ExprNum, N: n}
}

func variable(name string) api.Expr {
	return api.Expr{Kind: api.ExprVar, Name: name}
}

func element(name string, index api.Expr) api.Expr {
	return api.Expr{Kind: api.ExprIndex, Name: name, Kids: []api.Expr{index}}
}

func operation(op int, kids ...api.Expr) api.Expr {
	return api.Expr{Kind: api.ExprOp, Op: op, Kids: kids}
}

func choice(condition, first, second api.Expr) api.Expr {
	return api.Expr{Kind: api.ExprCond, Kids: []api.Expr{condition, first, second}}
}

// sameExpr compares expressions; a nil slice and an empty slice are the same.
func sameExpr(a, b api.Expr) bool {
	return a.Kind == b.Kind && a.N == b.N && a.Name == b.Name && a.Op == b.Op && slices.EqualFunc(a.Kids, b.Kids, sameExpr)
}

func sameStmt(a, b api.Stmt) bool {
	return a.Kind == b.Kind && a.Name == b.Name && a.To == b.To && a.N == b.N &&
		sameExpr(a.At, b.At) && sameExpr(a.Value, b.Value) && slices.EqualFunc(a.Args, b.Args, sameExpr) &&
		slices.EqualFunc(a.Then, b.Then, sameStmt) && slices.EqualFunc(a.Else, b.Else, sameStmt)
}

func sameFunc(a, b api.Func) bool {
	return a.Name == b.Name && slices.Equal(a.Params, b.Params) && slices.Equal(a.Locals, b.Locals) &&
		slices.EqualFunc(a.Body, b.Body, sameStmt) && sameExpr(a.Value, b.Value)
}

func sameProgram(a, b api.Program) bool {
	return slices.Equal(a.Arrays, b.Arrays) && slices.EqualFunc(a.Funcs, b.Funcs, sameFunc)
}

// excerpt shortens a text for a message.
func excerpt(s string) string {
	if len(s) <= 300 {
		return s
	}
	return s[:300] + ".."
}

func checkProgram(t *testing.T, s string, want api.Program) {
	t.Helper()
	if got, err := parser.Parse(s); err != (api.Err{}) || !sameProgram(got, want) {
		t.Errorf("Parse(%q) = %v, %v, want %v and no error", excerpt(s), got, err, want)
	}
}

func checkError(t *testing.T, s string, why api.Errno, at int) {
	t.Helper()
	got, err := parser.Parse(s)
	if err != (api.Err{Why: why, At: at}) {
		t.Errorf("Parse(%q) returns %v, want {%d %d}", excerpt(s), err, why, at)
	}
	if !sameProgram(got, api.Program{}) {
		t.Errorf("Parse(%q) returns a program with its error: %v", excerpt(s), got)
	}
}

// checkMarkedError checks for a syntax error at the offset of the first `@` of s, parsing s without this mark.
func checkMarkedError(t *testing.T, s string) {
	t.Helper()
	before, after, found := strings.Cut(s, "@")
	if !found {
		t.Fatalf("%q has no mark", s)
	}
	checkError(t, before+after, api.ErrSyntax, len(before))
}

// function is a program of the function f without parameters and variables that returns 0.
func function(body ...api.Stmt) api.Program {
	return api.Program{Funcs: []api.Func{{Name: "f", Body: body, Value: num(0)}}}
}

func checkBody(t *testing.T, body string, want ...api.Stmt) {
	t.Helper()
	checkProgram(t, "func f() { "+body+" return 0; }", function(want...))
}

// 3.1
func TestTextsWithoutDeclarations(t *testing.T) {
	for _, s := range []string{"", " ", "\n\t\r", "# array x 1;", "#\n#\n"} {
		checkProgram(t, s, api.Program{})
	}
}

// 3.1
func TestArrays(t *testing.T) {
	checkProgram(t, "array x 3;", api.Program{Arrays: []api.Array{{Name: "x", Len: 3}}})
	checkProgram(t, "array x 0;", api.Program{Arrays: []api.Array{{Name: "x"}}})
	checkProgram(t, "array abcdefghijklmnop 16;", api.Program{Arrays: []api.Array{{Name: "abcdefghijklmnop", Len: 16}}})
	checkProgram(t, "array # x 2;\nb\t2\n;", api.Program{Arrays: []api.Array{{Name: "b", Len: 2}}})
	checkProgram(t, "array z 1; array y 2;array x 3;array z 4;",
		api.Program{Arrays: []api.Array{{Name: "z", Len: 1}, {Name: "y", Len: 2}, {Name: "x", Len: 3}, {Name: "z", Len: 4}}})
}

// 3.1
func TestFunctionHeads(t *testing.T) {
	for _, c := range []struct {
		head string
		want api.Func
	}{
		{"f()", api.Func{Name: "f"}},
		{"f(a)", api.Func{Name: "f", Params: []string{"a"}}},
		{"f(b, a)", api.Func{Name: "f", Params: []string{"b", "a"}}},
		{"f(c,a,b,a)", api.Func{Name: "f", Params: []string{"c", "a", "b", "a"}}},
		{"f() var x", api.Func{Name: "f", Locals: []string{"x"}}},
		{"f()var y,x", api.Func{Name: "f", Locals: []string{"y", "x"}}},
		{"f(a) var x", api.Func{Name: "f", Params: []string{"a"}, Locals: []string{"x"}}},
		{"f(b, a) var z, y, x", api.Func{Name: "f", Params: []string{"b", "a"}, Locals: []string{"z", "y", "x"}}},
		{"_f9(f, f) var f, f", api.Func{Name: "_f9", Params: []string{"f", "f"}, Locals: []string{"f", "f"}}},
		{"f(a1,a2,a3,a4,a5,a6,a7,a8,a9)", api.Func{Name: "f", Params: strings.Fields("a1 a2 a3 a4 a5 a6 a7 a8 a9")}},
		{"f() var a1,a2,a3,a4,a5,a6,a7,a8,a9", api.Func{Name: "f", Locals: strings.Fields("a1 a2 a3 a4 a5 a6 a7 a8 a9")}},
	} {
		c.want.Value = variable("a")
		checkProgram(t, "func "+c.head+" { return a; }", api.Program{Funcs: []api.Func{c.want}})
	}
}

// 3.1
func TestDeclarationsInAnyOrder(t *testing.T) {
	arrays := []api.Array{{Name: "b", Len: 1}, {Name: "a", Len: 2}}
	funcs := []api.Func{{Name: "g", Value: num(1)}, {Name: "f", Value: num(2)}, {Name: "g", Value: num(3)}}
	b, a := "array b 1;", "array a 2;"
	g, f, h := "func g() { return 1; }", "func f() { return 2; }", "func g() { return 3; }"
	for _, texts := range [][]string{
		{b, a, g, f, h}, {g, f, h, b, a}, {b, g, a, f, h}, {g, b, f, a, h}, {g, f, b, h, a}, {b, g, f, h, a},
	} {
		checkProgram(t, strings.Join(texts, " "), api.Program{Arrays: arrays, Funcs: funcs})
		checkProgram(t, strings.Join(texts, ""), api.Program{Arrays: arrays, Funcs: funcs})
	}
}

// 3.1
func TestAssignments(t *testing.T) {
	checkBody(t, "x = 1;", api.Stmt{Kind: api.StmtAssign, Name: "x", Value: num(1)})
	checkBody(t, "x=x;", api.Stmt{Kind: api.StmtAssign, Name: "x", Value: variable("x")})
	checkBody(t, "x = y + 1;", api.Stmt{Kind: api.StmtAssign, Name: "x", Value: operation(api.OpAdd, variable("y"), num(1))})
	checkBody(t, "x = y[1];", api.Stmt{Kind: api.StmtAssign, Name: "x", Value: element("y", num(1))})
	checkBody(t, "x = (y);", api.Stmt{Kind: api.StmtAssign, Name: "x", Value: variable("y")})
	checkBody(t, "x = -1;", api.Stmt{Kind: api.StmtAssign, Name: "x", Value: num(-1)})
	checkBody(t, "x = a ? b : c;", api.Stmt{Kind: api.StmtAssign, Name: "x", Value: choice(variable("a"), variable("b"), variable("c"))})
}

// 3.1
func TestCalls(t *testing.T) {
	a, b := variable("a"), variable("b")
	for _, c := range []struct {
		args string
		want []api.Expr
	}{
		{"()", nil},
		{"( )", nil},
		{"(a)", []api.Expr{a}},
		{"((a))", []api.Expr{a}},
		{"(b, a)", []api.Expr{b, a}},
		{"(-1,a+b)", []api.Expr{num(-1), operation(api.OpAdd, a, b)}},
		{"(a ? b : a, b ? a : b)", []api.Expr{choice(a, b, a), choice(b, a, b)}},
		{"(a[b], (a), -b, a)", []api.Expr{element("a", b), a, operation(api.OpNeg, b), a}},
		{"(1,2,3,4,5,6,7)", []api.Expr{num(1), num(2), num(3), num(4), num(5), num(6), num(7)}},
	} {
		checkBody(t, "x = g"+c.args+";", api.Stmt{Kind: api.StmtCall, Name: "x", To: "g", Args: c.want})
		checkBody(t, "x = x # (1)\n "+c.args+" ;", api.Stmt{Kind: api.StmtCall, Name: "x", To: "x", Args: c.want})
	}
}

// 3.1
func TestStores(t *testing.T) {
	a, b := variable("a"), variable("b")
	checkBody(t, "x[0] = 1;", api.Stmt{Kind: api.StmtStore, Name: "x", At: num(0), Value: num(1)})
	checkBody(t, "x[a]=b;", api.Stmt{Kind: api.StmtStore, Name: "x", At: a, Value: b})
	checkBody(t, "x[x[a]] = x[b];", api.Stmt{Kind: api.StmtStore, Name: "x", At: element("x", a), Value: element("x", b)})
	checkBody(t, "x[a - b] = b - a;", api.Stmt{Kind: api.StmtStore, Name: "x", At: operation(api.OpSub, a, b), Value: operation(api.OpSub, b, a)})
	checkBody(t, "x[a ? b : a] = b ? a : b;", api.Stmt{Kind: api.StmtStore, Name: "x", At: choice(a, b, a), Value: choice(b, a, b)})
}

// 3.1
func TestConditionalStatements(t *testing.T) {
	out := func(n int64) []api.Stmt { return []api.Stmt{{Kind: api.StmtOut, Value: num(n)}} }
	a := variable("a")
	checkBody(t, "if (a) { }", api.Stmt{Kind: api.StmtIf, Value: a})
	checkBody(t, "if (a) { } else { }", api.Stmt{Kind: api.StmtIf, Value: a})
	checkBody(t, "if (a) { out 1; }", api.Stmt{Kind: api.StmtIf, Value: a, Then: out(1)})
	checkBody(t, "if (a) { } else { out 2; }", api.Stmt{Kind: api.StmtIf, Value: a, Else: out(2)})
	checkBody(t, "if(a){out 1;}else{out 2;}", api.Stmt{Kind: api.StmtIf, Value: a, Then: out(1), Else: out(2)})
	checkBody(t, "if ((a)) { out 1; out 2; } else { out 3; out 4; out 5; }",
		api.Stmt{Kind: api.StmtIf, Value: a, Then: append(out(1), out(2)...), Else: append(append(out(3), out(4)...), out(5)...)})
	checkBody(t, "if (a ? 1 : 2) { }", api.Stmt{Kind: api.StmtIf, Value: choice(a, num(1), num(2))})
	checkBody(t, "if (a) { } if (a) { } else { out 1; }", api.Stmt{Kind: api.StmtIf, Value: a}, api.Stmt{Kind: api.StmtIf, Value: a, Else: out(1)})
}

// 3.1
func TestTheNearestIfTakesTheElse(t *testing.T) {
	a, b := variable("a"), variable("b")
	out := []api.Stmt{{Kind: api.StmtOut, Value: num(1)}}
	checkBody(t, "if (a) { if (b) { } } else { out 1; }",
		api.Stmt{Kind: api.StmtIf, Value: a, Then: []api.Stmt{{Kind: api.StmtIf, Value: b}}, Else: out})
	checkBody(t, "if (a) { if (b) { } else { out 1; } }",
		api.Stmt{Kind: api.StmtIf, Value: a, Then: []api.Stmt{{Kind: api.StmtIf, Value: b, Else: out}}})
	checkBody(t, "if (a) { } else { if (b) { } else { out 1; } }",
		api.Stmt{Kind: api.StmtIf, Value: a, Else: []api.Stmt{{Kind: api.StmtIf, Value: b, Else: out}}})
}

// 3.1
func TestLoops(t *testing.T) {
	a := variable("a")
	checkBody(t, "while (a) { }", api.Stmt{Kind: api.StmtWhile, Value: a})
	checkBody(t, "while(a){a=0;}", api.Stmt{Kind: api.StmtWhile, Value: a, Then: []api.Stmt{{Kind: api.StmtAssign, Name: "a", Value: num(0)}}})
	checkBody(t, "while (a) { while (1) { } trap 2; }",
		api.Stmt{Kind: api.StmtWhile, Value: a, Then: []api.Stmt{{Kind: api.StmtWhile, Value: num(1)}, {Kind: api.StmtTrap, N: 2}}})
	checkBody(t, "while (a ? 1 : 2) { }", api.Stmt{Kind: api.StmtWhile, Value: choice(a, num(1), num(2))})
}

// 3.1
func TestOutputs(t *testing.T) {
	checkBody(t, "out 7;", api.Stmt{Kind: api.StmtOut, Value: num(7)})
	checkBody(t, "out -7;", api.Stmt{Kind: api.StmtOut, Value: num(-7)})
	checkBody(t, "out(a);", api.Stmt{Kind: api.StmtOut, Value: variable("a")})
	checkBody(t, "out a ? 1 : 2;", api.Stmt{Kind: api.StmtOut, Value: choice(variable("a"), num(1), num(2))})
}

// 3.1
func TestTraps(t *testing.T) {
	checkBody(t, "trap 0;", api.Stmt{Kind: api.StmtTrap})
	checkBody(t, "trap 7;", api.Stmt{Kind: api.StmtTrap, N: 7})
}

// 3.1
func TestNumbersOfDeclarationsAndTraps(t *testing.T) {
	for text, n := range map[string]int{"0": 0, "1": 1, "17": 17, "999999": 999999, "1000000": 1000000} {
		checkProgram(t, "array x "+text+";", api.Program{Arrays: []api.Array{{Name: "x", Len: n}}})
		checkBody(t, "trap "+text+";", api.Stmt{Kind: api.StmtTrap, N: n})
	}
	for _, text := range []string{
		"1000001", "1000010", "2000000", "10000000", "4294967296", "4294967297", "9223372036854775807", "9223372036854775808",
		"-1", "-0", "+1", "(1)", "~1", "a", "while", ";", "{", "",
	} {
		checkMarkedError(t, "array x @"+text+";")
		checkMarkedError(t, "func f() { trap @"+text+"; return 0; }")
	}
	checkMarkedError(t, "array x 1 @+ 1;")
	checkMarkedError(t, "func f() { trap 1 @+ 1; return 0; }")
}

// 3.1
func TestStatementsInOrder(t *testing.T) {
	checkBody(t, "")
	checkBody(t, "x = 1; y[2] = 3; if (a) { } z = g(); while (b) { } out 4; trap 5; x = 6;",
		api.Stmt{Kind: api.StmtAssign, Name: "x", Value: num(1)},
		api.Stmt{Kind: api.StmtStore, Name: "y", At: num(2), Value: num(3)},
		api.Stmt{Kind: api.StmtIf, Value: variable("a")},
		api.Stmt{Kind: api.StmtCall, Name: "z", To: "g"},
		api.Stmt{Kind: api.StmtWhile, Value: variable("b")},
		api.Stmt{Kind: api.StmtOut, Value: num(4)},
		api.Stmt{Kind: api.StmtTrap, N: 5},
		api.Stmt{Kind: api.StmtAssign, Name: "x", Value: num(6)})
}

// namePlaces lists programs with a mark at each place where a name stands.
func namePlaces() []string {
	return []string{
		"array @ 1;", "func @() { return 0; }", "func f(@) { return 0; }", "func f(a, @) { return 0; }", "func f(a, @, b) { return 0; }",
		"func f() var @ { return 0; }", "func f() var a, @ { return 0; }", "func f() { return @; }", "func f() { return @[0]; }",
		"func f() { @ = 0; return 0; }", "func f() { x = @; return 0; }", "func f() { x = @(); return 0; }", "func f() { x = @(1); return 0; }",
		"func f() { x = g(@); return 0; }", "func f() { @[0] = 0; return 0; }", "func f() { x[@] = 0; return 0; }", "func f() { x[0] = @; return 0; }",
		"func f() { if (@) { } return 0; }", "func f() { while (@) { } return 0; }", "func f() { out @; return 0; }",
		"func f() { out -@; return 0; }", "func f() { out 1 + @; return 0; }", "func f() { out (@); return 0; }", "func f() { out a ? @ : b; return 0; }",
		"func f() { out a ? b : @; return 0; }",
	}
}

func reservedWords() []string {
	return []string{"array", "func", "var", "return", "if", "else", "while", "out", "trap"}
}

// 3.1, 3.3
func TestReservedWordsAreNoNames(t *testing.T) {
	for _, place := range namePlaces() {
		before, after, _ := strings.Cut(place, "@")
		for _, word := range reservedWords() {
			// Where a statement may start, some of these words start one, or end the body.
			if before == "func f() { " && slices.Contains([]string{"return", "if", "while", "out", "trap"}, word) {
				continue
			}
			checkMarkedError(t, before+"@"+word+after)
		}
	}
	checkMarkedError(t, "func f() { if @= 1; return 0; }")
	checkMarkedError(t, "func f() { while @[0] = 1; return 0; }")
	checkMarkedError(t, "func f() { out @= 1; return 0; }")
	checkMarkedError(t, "func f() { trap @= 1; return 0; }")
	checkMarkedError(t, "func f() { return @= 1; return 0; }")
}

// 3.1
func TestWordsThatAreNotReserved(t *testing.T) {
	for _, name := range []string{
		"a", "_", "Array", "ARRAY", "arrays", "arra", "_array", "fun", "function", "Func", "vars", "va", "Var", "return_", "ret", "Return",
		"If", "iff", "i", "Else", "els", "elseif", "While", "whil", "while1", "Out", "outs", "ou", "Trap", "trap1", "tra", "for", "do", "int", "true",
	} {
		for _, place := range namePlaces() {
			if _, err := parser.Parse(strings.Replace(place, "@", name, 1)); err != (api.Err{}) {
				t.Errorf("%q is no name in %q: %v", name, place, err)
			}
		}
		checkProgram(t, "array "+name+" 1;", api.Program{Arrays: []api.Array{{Name: name, Len: 1}}})
	}
}

// R2
func TestResultsAreNewlyAllocated(t *testing.T) {
	const s = "array x 1; func f(a, b) var c, d { x[a] = a; c = f(a, b); if (a) { out a; } else { out b; } return a ? -b : ~c; }"
	first, _ := parser.Parse(s)
	want, _ := parser.Parse(s)
	first.Arrays[0] = api.Array{}
	f := first.Funcs[0]
	clear(f.Params)
	clear(f.Locals)
	clear(f.Body[1].Args)
	clear(f.Body[2].Then)
	clear(f.Body[2].Else)
	clear(f.Value.Kids[1].Kids)
	clear(f.Value.Kids)
	clear(f.Body)
	clear(first.Funcs)
	checkProgram(t, s, want)
}

// R2
func TestSlicesOfAResultAreSeparate(t *testing.T) {
	const s = "func f(a, b) var c, d { out a + b; out c * d; out x[a]; c = f(a, b); c = f(c, d); if (a) { out 1; out 2; } else { out 3; out 4; } return 0; }"
	want, _ := parser.Parse(s)
	got, err := parser.Parse(s)
	if err != (api.Err{}) {
		t.Fatal(err)
	}
	f := got.Funcs[0]
	_ = append(f.Params, "p")
	_ = append(f.Locals, "l")
	_ = append(f.Body, api.Stmt{})
	for _, stmt := range f.Body {
		_ = append(stmt.Value.Kids, api.Expr{})
		_ = append(stmt.Args, api.Expr{})
		_ = append(stmt.Then, api.Stmt{})
		_ = append(stmt.Else, api.Stmt{})
	}
	if !sameProgram(got, want) {
		t.Errorf("the result has changed to %v", got)
	}
}
