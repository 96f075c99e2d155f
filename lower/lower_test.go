package lower_test

import (
	"fmt"
	"reflect"
	"strconv"
	"strings"
	"testing"

	"fulling/api"
	"fulling/ir"
	"fulling/lower"
	"fulling/parser"
)

// operationNames has the names of the operations from OpConst on.
var operationNames = strings.Fields("const param loopvar add sub mul div rem and or xor shl shr sar eq ne lt le ltu neg not " +
	"select load callresult loopresult entry guard store output call loop")

// operationName returns the name of an operation in the texts of the tests.
func operationName(op int) string {
	if op < api.OpConst || op > api.OpLoop {
		return fmt.Sprint("op", op)
	}
	return operationNames[op-api.OpConst]
}

// hasImmediate reports whether the texts show the immediate operand of an operation even if it is 0.
func hasImmediate(op int) bool {
	switch op {
	case api.OpConst, api.OpParam, api.OpLoopVar, api.OpLoad, api.OpLoopResult, api.OpGuard, api.OpStore, api.OpCall, api.OpLoop:
		return true
	}
	return false
}

// nodeText writes a node as, for example, store.1(5,1,2): the operation, the immediate operand and the operands.
func nodeText(op int, imm int64, kids ...int) string {
	s := operationName(op)
	if hasImmediate(op) || imm != 0 {
		s += "." + strconv.FormatInt(imm, 10)
	}
	if len(kids) == 0 {
		return s
	}
	var operands []string
	for _, kid := range kids {
		operands = append(operands, strconv.Itoa(kid))
	}
	return s + "(" + strings.Join(operands, ",") + ")"
}

// graphText writes the nodes of a graph, its value and its state.
func graphText(g api.Graph) string {
	var l []string
	for _, n := range g.Nodes {
		l = append(l, nodeText(n.Op, n.Imm, n.Kids...))
	}
	return fmt.Sprint(strings.Join(l, " "), " = ", g.Value, " ", g.State)
}

// parse fails the test for a text that is not a program.
func parse(t *testing.T, s string) api.Program {
	t.Helper()
	p, err := parser.Parse(s)
	if err != (api.Err{}) {
		t.Fatalf("Parse(%q) returns %v", s, err)
	}
	return p
}

// excerpt shortens a text for a message.
func excerpt(what any) string {
	s := fmt.Sprint(what)
	if len(s) <= 1500 {
		return s
	}
	return s[:1500] + ".."
}

// mustLower fails the test for a program that is not lowered to a valid unit; what describes the program.
func mustLower(t *testing.T, what any, p api.Program) api.Unit {
	t.Helper()
	u, why := lower.Lower(p)
	if why != api.OK {
		t.Fatalf("%s: Lower returns %d", excerpt(what), why)
	}
	if !ir.Valid(u) {
		t.Fatalf("%s: Lower returns a unit that is not valid: %s", excerpt(what), excerpt(u))
	}
	return u
}

// checkText checks the graph of the first function of a program: its nodes, its value and its state.
func checkText(t *testing.T, s, want string) {
	t.Helper()
	if got := graphText(mustLower(t, s, parse(t, s)).Funcs[0]); got != want {
		t.Errorf("%s\nis lowered to\n%s, not\n%s", s, got, want)
	}
}

// checkError checks a program that is not lowered.
func checkError(t *testing.T, what any, p api.Program, want api.Errno) {
	t.Helper()
	u, why := lower.Lower(p)
	if why != want || !reflect.DeepEqual(u, api.Unit{}) {
		t.Errorf("%s: Lower returns %s and %d, not %d", excerpt(what), excerpt(u), why, want)
	}
}

// 8.1: the nodes with which a graph starts
func TestFirstNodes(t *testing.T) {
	checkText(t, "func f() { return 7; }", "entry const.7 = 1 0")
	checkText(t, "func f(a) { return 7; }", "entry param.0 const.7 = 2 0")
	checkText(t, "func f(a, b, c, d, e, g) { return 7; }", "entry param.0 param.1 param.2 param.3 param.4 param.5 const.7 = 7 0")
	checkText(t, "func f() var a { return 7; }", "entry const.0 const.7 = 2 0")
	checkText(t, "func f() var a, b, c { return 7; }", "entry const.0 const.7 = 2 0")
	checkText(t, "func f(a, b) var c, d { return 7; }", "entry param.0 param.1 const.0 const.7 = 4 0")
	checkText(t, "func f(a, b) var c { return 0; }", "entry param.0 param.1 const.0 = 3 0")
}

// 8.1: the values of parameters and local variables
func TestFirstValues(t *testing.T) {
	for i, name := range []string{"a", "b", "c", "d", "e", "g"} {
		checkText(t, "func f(a, b, c, d, e, g) { return "+name+"; }",
			fmt.Sprint("entry param.0 param.1 param.2 param.3 param.4 param.5 = ", 1+i, " 0"))
	}
	for _, name := range []string{"c", "d", "e"} {
		checkText(t, "func f(a, b) var c, d, e { return "+name+"; }", "entry param.0 param.1 const.0 = 3 0")
	}
	checkText(t, "func f(b, a) var d, c { return a; }", "entry param.0 param.1 const.0 = 2 0")
}

// 8.1: the function's value is translated after the statements, and the state at the end is the one after the value.
func TestValueAndState(t *testing.T) {
	checkText(t, "func f(a) { out 3; return 1 % a; }",
		"entry param.0 const.3 output(0,2) const.1 const.0 ne(1,5) guard.1(3,6) rem(4,1) = 8 7")
	checkText(t, "func f(a) { a = 5; return a; }", "entry param.0 const.5 = 2 0")
	checkText(t, "func f(a) { out a; return a; }", "entry param.0 output(0,1) = 1 2")
}

// 8.1: put returns an identical node wherever it is, and creates one that differs in anything.
func TestIdenticalNodes(t *testing.T) {
	checkText(t, "func f(a, b) { out a + b; out a + b; return a + b; }",
		"entry param.0 param.1 add(1,2) output(0,3) output(4,3) = 3 5")
	checkText(t, "func f(a, b) { out a - b; out b - a; out a + b; out a - a; return -a; }",
		"entry param.0 param.1 sub(1,2) output(0,3) sub(2,1) output(4,5) add(1,2) output(6,7) sub(1,1) output(8,9) neg(1) = 11 10")
	checkText(t, "func f() { out 1; out 10; out -1; out 1; return 10; }",
		"entry const.1 output(0,1) const.10 output(2,3) const.-1 output(4,5) output(6,1) = 3 7")
	checkText(t, "array x 2; func f() { return x[1] + x[1]; }",
		"entry const.1 const.2 ltu(1,2) guard.2(0,3) load.0(4,1) guard.2(4,3) load.0(6,1) add(5,7) = 8 6")
	checkText(t, "array x 2; array y 2; func f() { return x[1] + y[1]; }",
		"entry const.1 const.2 ltu(1,2) guard.2(0,3) load.0(4,1) guard.2(4,3) load.1(6,1) add(5,7) = 8 6")
	checkText(t, "func f(a) { if (a) { out 7; } else { out 7; } return a ? a / 3 : a / 3; }",
		"entry param.0 const.7 output(0,2) const.3 const.0 ne(4,5) guard.1(3,6) div(1,4) = 8 7")
	checkText(t, "func f(a) { if (a) { trap 1; } else { trap 2; } return 0; }",
		"entry param.0 const.0 guard.17(0,2) guard.18(0,2) select(1,3,4) = 2 5")
	checkText(t, "func f(a) { if (a) { a = f(1); } else { a = f(1); } return 0; }",
		"entry param.0 const.1 call.0(0,2) callresult(3) const.0 = 5 3")
	checkText(t, "array x 2; func f(a) { if (a) { x[0] = 1; } else { x[0] = 1; } return 0; }",
		"entry param.0 const.0 const.1 const.2 ltu(2,4) guard.2(0,5) store.0(6,2,3) = 2 7")
	checkText(t, "func f(a, b, c) { return (a ? b : c) + (a ? b : c) + (a ? c : b) + (b ? b : c); }",
		"entry param.0 param.1 param.2 select(1,2,3) add(4,4) select(1,3,2) add(5,6) select(2,2,3) add(7,8) = 9 0")
}

// 8.1: numbers whose texts could be confused
func TestSimilarNodes(t *testing.T) {
	s, want := "func f(a) { return a", "entry param.0"
	sum := 1
	for i, n := range []int64{1, 11, 111, -1, 12, 2, 21, -1 << 63, 1<<63 - 1, 0, 1 << 32, 1<<32 + 1} {
		s += fmt.Sprint(" + ", n)
		want += fmt.Sprint(" ", nodeText(api.OpConst, n), " ", nodeText(api.OpAdd, 0, sum, 2+2*i))
		sum = 3 + 2*i
	}
	checkText(t, s+"; }", fmt.Sprint(want, " = ", sum, " 0"))
	checkText(t, "func f(a,b,c) { a = 1; a = 2; a = 3; a = 4; a = 5; a = 6; a = 7; a = 8; return (b + 8) + (1 + 8) + (c - b) + (1 - 8); }",
		"entry param.0 param.1 param.2 const.1 const.2 const.3 const.4 const.5 const.6 const.7 const.8 add(2,11) add(4,11) add(12,13) "+
			"sub(3,2) add(14,15) sub(4,11) add(16,17) = 18 0")
}

// 8.1: the unit
func TestUnit(t *testing.T) {
	s := "array y 3; func g(a, b) { return a; } array x 16; func f() var a { a = g(1, 2); return a; } func h(z) { return 2; }"
	u := mustLower(t, s, parse(t, s))
	if want := []api.Array{{Name: "y", Len: 3}, {Name: "x", Len: 16}}; !reflect.DeepEqual(u.Arrays, want) {
		t.Errorf("the arrays are %v, not %v", u.Arrays, want)
	}
	want := []string{
		"g 2 entry param.0 param.1 = 1 0",
		"f 0 entry const.0 const.1 const.2 call.0(0,2,3) callresult(4) = 5 4",
		"h 1 entry param.0 const.2 = 2 0",
	}
	var got []string
	for _, g := range u.Funcs {
		got = append(got, fmt.Sprint(g.Name, " ", g.Params, " ", graphText(g)))
	}
	if !reflect.DeepEqual(got, want) {
		t.Errorf("the functions are %q, not %q", got, want)
	}
	for _, p := range []api.Program{{}, {Arrays: []api.Array{}, Funcs: []api.Func{}}} {
		if u := mustLower(t, "empty", p); len(u.Arrays)+len(u.Funcs) != 0 {
			t.Errorf("the empty program is lowered to %v", u)
		}
	}
	if u := mustLower(t, "arrays", parse(t, "array x 1;")); len(u.Arrays) != 1 || len(u.Funcs) != 0 {
		t.Errorf("an array is lowered to %v", u)
	}
}

// 8.1: nodes and loop numbers of one function do not affect another.
func TestFunctionsAreSeparate(t *testing.T) {
	body := "(a) var b { while (a) { b = b + 9; a = a - 1; } return b / a; } "
	s := "func f" + body + "func g" + body + "func h" + body
	u := mustLower(t, s, parse(t, s))
	for _, g := range u.Funcs {
		if graphText(g) != graphText(u.Funcs[0]) {
			t.Errorf("%s is lowered to %s, not %s", g.Name, graphText(g), graphText(u.Funcs[0]))
		}
	}
}

// 8.1: a name may be that of a function and of an array, or of a function and of a variable.
func TestEqualNames(t *testing.T) {
	checkText(t, "array g 2; array f 3; func f(h) var k { k = g(f[h]); return g[k]; } func h(a) { return 0; } func g(a) { return 0; } func k() { return 0; }",
		"entry param.0 const.0 const.3 ltu(1,3) guard.2(0,4) load.1(5,1) call.2(5,6) callresult(7) const.2 ltu(8,9) guard.2(7,10) load.0(11,8) = 12 11")
	checkText(t, "func f(f) { f = f(f); return f; }", "entry param.0 call.0(0,1) callresult(2) = 3 2")
}

// 8.1: the errors of the checker, whatever function they are in
func TestErrorsOfChecker(t *testing.T) {
	for s, want := range map[string]api.Errno{
		"array x 17;":                                             api.ErrLimit,
		"array x 0; func f() { return 0; }":                       api.ErrLimit,
		"func f(a, b, c, d, e, g, h) { return a; }":               api.ErrLimit,
		"func f(x, x) { return 0; }":                              api.ErrDuplicate,
		"func f() { return 0; } func f() { trap 1; return 0; }":   api.ErrDuplicate,
		"func f() { return a; }":                                  api.ErrUndefined,
		"func f() { return 0; } func g() { x[0] = 1; return 0; }": api.ErrUndefined,
		"func f(a) { a = g(a); return 0; }":                       api.ErrUndefined,
		"func f(a) { a = f(); return 0; }":                        api.ErrArity,
	} {
		checkError(t, s, parse(t, s), want)
	}
	kinds := api.Program{Funcs: []api.Func{{Name: "f", Value: api.Expr{Kind: api.ExprCond + 1}}}}
	checkError(t, "unknown kind", kinds, api.ErrSyntax)
	checkError(t, "reserved name", api.Program{Funcs: []api.Func{{Name: "f", Params: []string{"while"}, Value: num(1)}}}, api.ErrSyntax)
	checkError(t, "no value", api.Program{Funcs: []api.Func{{Name: "f"}}}, api.ErrSyntax)
	unsigned := api.Program{Funcs: []api.Func{{Name: "f", Value: operation(api.OpLtu, num(1), num(2))}}}
	checkError(t, "unsigned comparison", unsigned, api.ErrSyntax)
}
