package checker_test

import (
	"fmt"
	"strings"
	"testing"

	"fulling/api"
	"fulling/checker"
	"fulling/parser"
)

func num(n int64) api.Expr {
	return api.Expr{Kind: api.ExprNum, N: n}
}

func variable(name string) api.Expr {
	return api.Expr{Kind: api.ExprVar, Name: name}
}

func element(name string, index api.Expr) api.Expr {
	return api.Expr{Kind: api.ExprIndex, Name: name, Kids: []api.Expr{index}}
}

func operation(op int, kids ...api.Expr) api.Expr {
	return api.Expr{Kind: api.ExprOp, Op: op, Kids: kids}
}

func choice(kids ...api.Expr) api.Expr {
	return api.Expr{Kind: api.ExprCond, Kids: kids}
}

// program has the array x, the function f of p and q with the local variable v and this body, and the function g without parameters.
func program(body ...api.Stmt) api.Program {
	return api.Program{
		Arrays: []api.Array{{Name: "x", Len: 1}},
		Funcs: []api.Func{
			{Name: "f", Params: []string{"p", "q"}, Locals: []string{"v"}, Body: body, Value: num(0)},
			{Name: "g", Value: num(0)},
		},
	}
}

// returning is program with this expression as the value of f.
func returning(value api.Expr) api.Program {
	p := program()
	p.Funcs[0].Value = value
	return p
}

// parse fails the test for a text that is not a program.
func parse(t *testing.T, s string) api.Program {
	t.Helper()
	p, err := parser.Parse(s)
	if err != (api.Err{}) {
		t.Fatalf("Parse(%q) returns %v", s, err)
	}
	return p
}

// excerpt shortens the text of a program for a message.
func excerpt(what any) string {
	s := fmt.Sprint(what)
	if len(s) <= 400 {
		return s
	}
	return s[:400] + ".."
}

// checkTree checks the result for a program; what describes it.
func checkTree(t *testing.T, what any, p api.Program, want api.Errno) {
	t.Helper()
	if got := checker.Check(p); got != want {
		t.Errorf("%s: Check returns %d, want %d", excerpt(what), got, want)
	}
}

func checkText(t *testing.T, s string, want api.Errno) {
	t.Helper()
	checkTree(t, s, parse(t, s), want)
}

// within is the text of a program with a statement list in its function.
func within(statements string) string {
	return "array x 4; func f(p, q) var v { " + statements + " return 0; } func g() { return 0; }"
}

// 4.1
func TestValidPrograms(t *testing.T) {
	for _, s := range []string{
		"",
		"array x 1;",
		"array x 16; array y 2;",
		"func f() { return 0; }",
		"func f(a) { return a; }",
		"func f() var a { return a; }",
		"func f() { return x[0]; } array x 3;",
		"func f(p) { p = g(p); return p; } func g(q) { q = f(q); return q; }",
		"func f(a) { return a ? -a : ~a; }",
		"func f() { return -9223372036854775808 + -(5) - -(-5); }",
		within(""),
		within("v = p; p = q; q = v;"),
		within("x[p] = x[q] * x[x[v]];"),
		within("if (p) { } if (q) { out 1; } else { } if (v) { } else { out 1; }"),
		within("while (p) { while (q) { p = 0; } }"),
		within("out p; trap 0; trap 7; trap 1000000;"),
		within("v = f(p, q); v = g(); p = f(1, x[2] ? p : q);"),
		within("v = p | q ^ p & q == p != q < p <= q << 1 >> 2 >>> 3 + p - q * p / q % -v; v = ~p > !q; v = p >= q;"),
	} {
		checkText(t, s, api.OK)
	}
}

// 4.1: an array, a function and a variable of another function may have the same name.
func TestNamesThatMayBeEqual(t *testing.T) {
	for _, s := range []string{
		"array f 1; func f() { return f[0]; }",
		"func f(f) { f = f(f); return f; }",
		"func f() var f { return f; }",
		"func f(g) { return g; } func g(f) { return f; }",
		"func f(a) var b { return a; } func g(a) var b { return b; }",
		"func f(a) var b { return a; } func g(b) var a { return b; }",
		"array x 1; array X 1; func f(xx, _x, x_, x1) { return 0; }",
	} {
		checkText(t, s, api.OK)
	}
}

// 4.1
func TestDuplicates(t *testing.T) {
	for _, s := range []string{
		"array x 1; array x 1;",
		"array x 1; array x 2;",
		"array x 1; array y 1; array z 1; array x 1;",
		"array y 1; array x 1; array x 1; array z 1;",
		"func f() { return 0; } func f() { return 0; }",
		"func f() { return 0; } func f(a) { return 1; }",
		"func f() { return 0; } func g() { return 0; } func h() { return 0; } func g() { return 0; }",
		"func f(x, x) { return 0; }",
		"func f(x, y, z, x) { return 0; }",
		"func f(x, y, z, z) { return 0; }",
		"func f() var x, x { return 0; }",
		"func f() var x, y, z, y { return 0; }",
		"func f(x) var x { return 0; }",
		"func f(x, y) var z, y { return 0; }",
		"func g(x, y) { return 0; } func f(x, y) var y { return 0; }",
		"array x 1; func f(x) { return 0; }",
		"array x 1; func f() var x { return 0; }",
		"func f(y, x) { return 0; } array x 1;",
		"array y 1; array x 1; func g() { return 0; } func f(a, b, c) var d, e, x { return 0; }",
		"array f 1; func f(f) { return 0; }",
	} {
		checkText(t, s, api.ErrDuplicate)
	}
}

// 4.1
func TestUndefinedNames(t *testing.T) {
	for _, s := range []string{
		// In a value, there is neither an array, a function, an unknown name nor a variable of another function.
		"func f() { return a; }",
		"array x 1; func f() { return x; }",
		"func f() { return f; }",
		"func f(a) { return 0; } func g() { return a; }",
		"func f() { return a; } func g() var a { return 0; }",
		"func f(a) { return A; }",
		// An element is one of an array.
		"func f() { return x[0]; }",
		"func f(a) { return a[0]; }",
		"func f() var a { return a[0]; }",
		"func f() { return f[0]; }",
		"array x 1; func f() { return y[0]; }",
		"array x 1; func f() { return x[a]; }",
		"array x 1; func f() { return x[x]; }",
		"array x 1; func f() { return x[y[0]]; }",
		// A statement assigns to a variable.
		within("a = 0;"), within("x = 0;"), within("f = 0;"), within("g = 0;"),
		within("a = g();"), within("x = g();"), within("f = g();"), within("g = g();"),
		// A statement stores to an array.
		within("y[0] = 0;"), within("p[0] = 0;"), within("v[0] = 0;"), within("f[0] = 0;"),
		// A statement calls a function.
		within("p = h();"), within("p = x();"), within("p = p(p, p);"), within("p = v();"),
	} {
		checkText(t, s, api.ErrUndefined)
	}
}

// 4.1: an undefined name is found wherever it is.
func TestPlacesOfUndefinedNames(t *testing.T) {
	for _, e := range []string{
		"a", "-a", "~a", "!a", "a + 1", "1 + a", "a ? 1 : 2", "1 ? a : 2", "1 ? 2 : a", "x[a]", "y[0]", "v[0]",
		"1 + (2 * (3 ? 4 : -(x[5 - a])))", "p + q + v + a + p + q + v", "a > 1", "1 > a",
	} {
		checkText(t, "array x 1; func f(p, q) var v { return "+e+"; }", api.ErrUndefined)
		for _, s := range []string{
			"v = $;", "x[$] = 0;", "x[0] = $;", "out $;", "if ($) { }", "while ($) { }",
			"v = f($, 0);", "v = f(0, $);",
			"if (1) { out $; }", "if (1) { } else { out $; }", "while (1) { out $; }",
			"if (1) { while (1) { out 0; if (2) { } else { out 1; out $; } out 2; } }",
		} {
			s = strings.ReplaceAll(s, "$", e)
			checkText(t, within(s), api.ErrUndefined)
			checkText(t, within("out p; "+s+" out q;"), api.ErrUndefined)
			checkText(t, "array x 4; func g() { return 0; } func f(p, q) var v { "+s+" return 0; }", api.ErrUndefined)
		}
	}
}

// texts returns n texts that the function makes, with commas between them.
func texts(n int, text func(i int) string) string {
	var list []string
	for i := range n {
		list = append(list, text(i))
	}
	return strings.Join(list, ", ")
}

// 4.1
func TestArity(t *testing.T) {
	param := func(i int) string { return fmt.Sprint("a", i) }
	argument := func(i int) string { return fmt.Sprint(i) }
	for params := range api.MaxParams + 1 {
		called := "func g(" + texts(params, param) + ") var b1, b2 { return 0; } "
		for args := range api.MaxParams + 4 {
			want := api.OK
			if args != params {
				want = api.ErrArity
			}
			call := "v = g(" + texts(args, argument) + ");"
			for _, s := range []string{
				call, "v = f(); " + call + " v = f();", "if (1) { " + call + " }", "if (1) { } else { " + call + " }",
				"while (1) { " + call + " }", "while (1) { if (2) { } else { if (3) { out 4; " + call + " } } }",
			} {
				caller := "func f() var v { " + s + " return 0; } "
				checkText(t, called+caller, want)
				checkText(t, caller+called, want)
				checkText(t, "func h() { return 0; } "+called+"func i(a, b) { return 0; } "+caller, want)
			}
		}
	}
}

// 4.1: recursive calls
func TestArityOfRecursiveCalls(t *testing.T) {
	checkText(t, "func f(a) { a = f(a); return a; }", api.OK)
	checkText(t, "func f(a) { a = f(); return a; }", api.ErrArity)
	checkText(t, "func f(a) { a = f(1, 2); return a; }", api.ErrArity)
	checkText(t, "func f(a) var b { b = f(a, b); return a; }", api.ErrArity)
}
