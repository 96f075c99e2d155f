package lower_test

import (
	"fmt"
	"slices"
	"strings"
	"testing"

	"fulling/api"
)

// 8.4: the nodes of a loop, and their order
func TestLoops(t *testing.T) {
	checkText(t, "func f(a) { while (a) { } return a; }",
		"entry param.0 loopvar.0 loop.0(0,1,2) loopresult.0(3) select(1,4,0) = 1 5")
	checkText(t, "func f(a) { while (a) { a = a - 1; } return a; }",
		"entry param.0 loopvar.0 loopvar.1 const.1 sub(3,4) loop.0(0,1,5,2,5) loopresult.0(6) select(1,7,0) loopresult.1(6) select(1,9,1) = 10 8")
	checkText(t, "func f(a) { while (a) { out a; } return 7; }",
		"entry param.0 loopvar.0 output(2,1) loop.0(0,1,3) loopresult.0(4) select(1,5,0) const.7 = 7 6")
	checkText(t, "func f() { while (1) { out 7; } return 0; }",
		"entry const.1 loopvar.0 const.7 output(2,3) loop.0(0,1,4) loopresult.0(5) select(1,6,0) const.0 = 8 7")
	checkText(t, "func f(a) var b { a = 3; out a; while (b) { b = a; a = b + a; } out b; return a; }",
		"entry param.0 const.0 const.3 output(0,3) loopvar.0 loopvar.1 loopvar.2 add(6,6) loop.0(4,3,2,6,5,8,6) "+
			"loopresult.0(9) select(2,10,4) loopresult.1(9) select(2,12,3) loopresult.2(9) select(2,14,2) output(11,15) = 13 16")
}

// 8.4: Value is translated before the loop, and again after Then with the values and the state of that place.
func TestConditionsOfLoops(t *testing.T) {
	checkText(t, "func f(a, b) { while (a < b) { b = b >> 1; } return b; }",
		"entry param.0 param.1 lt(1,2) loopvar.0 loopvar.1 const.1 sar(5,6) lt(1,7) loop.0(0,2,8,4,7) "+
			"loopresult.0(9) select(3,10,0) loopresult.1(9) select(3,12,2) = 13 11")
	checkText(t, "func f(a) { while (1 / a) { a = 5; } return a; }",
		"entry param.0 const.1 const.0 ne(1,3) guard.1(0,4) div(2,1) loopvar.0 loopvar.1 const.5 ne(9,3) guard.1(7,10) div(2,9) "+
			"loop.0(5,1,12,11,9) loopresult.0(13) select(6,14,5) loopresult.1(13) select(6,16,1) = 17 15")
	checkText(t, "array x 2; func f(a) { while (x[a]) { x[a] = 1; } return 9; }",
		"entry param.0 const.2 ltu(1,2) guard.2(0,3) load.0(4,1) loopvar.0 const.1 guard.2(6,3) store.0(8,1,7) guard.2(9,3) load.0(10,1) "+
			"loop.0(4,11,10) loopresult.0(12) select(5,13,4) const.9 = 15 14")
	checkText(t, "func f(a, b) { while (a ? 1 / b : 0) { a = b; } return 0; }",
		"entry param.0 param.1 const.1 const.0 ne(2,4) guard.1(0,5) div(3,2) select(1,7,4) select(1,6,0) loopvar.0 loopvar.1 "+
			"guard.1(10,5) select(2,7,4) select(2,12,10) loop.0(9,1,13,14,2) loopresult.0(15) select(8,16,9) loopresult.1(15) select(8,18,1) = 4 17")
}

// variablesOfLoop returns the names of a loop's variables after the state.
// It knows them by their initial values, the nodes of the texts in names.
func variablesOfLoop(l []api.Node, number int64, names map[string]string) []string {
	var variables []string
	for _, n := range l {
		if n.Op != api.OpLoop || n.Imm != number {
			continue
		}
		for _, kid := range n.Kids[1 : len(n.Kids)/2] {
			variables = append(variables, names[nodeText(l[kid].Op, l[kid].Imm, l[kid].Kids...)])
		}
	}
	return variables
}

// 8.4: the variables of a loop are those assigned anywhere inside Then by StmtAssign or StmtCall, parameters first.
func TestVariablesOfLoops(t *testing.T) {
	names := map[string]string{"param.0": "b", "param.1": "a", "const.6": "d", "const.5": "c"}
	for body, want := range map[string]string{
		"":                                  "",
		"a = 0;":                            "a",
		"b = 0;":                            "b",
		"c = 0;":                            "c",
		"d = 0;":                            "d",
		"c = 0; d = 0; a = 0; b = 0;":       "b a d c",
		"d = 0; c = 0;":                     "d c",
		"c = 0; a = 0;":                     "a c",
		"d = d; d = 0; d = 1;":              "d",
		"d = d;":                            "d",
		"d = f(a, b);":                      "d",
		"c = f(a, b); b = f(d, d);":         "b c",
		"x[a] = d; out b; trap 1;":          "",
		"if (a) { c = 1; }":                 "c",
		"if (a) { } else { c = 1; }":        "c",
		"if (a) { d = 1; } else { b = 1; }": "b d",
		"while (b) { c = 1; }":              "c",
		"if (a) { while (b) { out 1; if (c) { } else { d = f(1, 2); } } }": "d",
		"while (b) { while (c) { b = 0; } d = 1; }":                        "b d",
	} {
		s := "array x 2; func f(b, a) var d, c { c = 5; d = 6; while (a) { " + body + " } c = 7; while (b) { a = 8; } return a; }"
		l := mustLower(t, s, parse(t, s)).Funcs[0].Nodes
		if got := strings.Join(variablesOfLoop(l, 0, names), " "); got != want {
			t.Errorf("%s: the variables of the loop are %q, not %q", s, got, want)
		}
		count := len(strings.Fields(want))
		for i := range count + 2 {
			exists := slices.ContainsFunc(l, func(n api.Node) bool { return n.Op == api.OpLoopVar && n.Imm == int64(i) })
			if exists != (i <= count) {
				t.Errorf("%s: there is a node for variable %d: %v", s, i, exists)
			}
		}
	}
}

// 8.4: the nodes of all variables come first in the loop, used or not.
func TestMostVariables(t *testing.T) {
	s := "func f(a, b, c, d, e, g) var h, i, j, k, l, m, n, o { while (a) { "
	for _, name := range strings.Fields("o n m l k j i h g e d c b a") {
		s += name + " = 5; "
	}
	want := "entry param.0 param.1 param.2 param.3 param.4 param.5 const.0"
	for i := range 15 {
		want += fmt.Sprint(" loopvar.", i)
	}
	want += " const.5 loop.0(0,1,2,3,4,5,6,7,7,7,7,7,7,7,7,23,8,23,23,23,23,23,23,23,23,23,23,23,23,23,23) loopresult.0(24) select(1,25,0)"
	for i := 1; i < 15; i++ {
		want += fmt.Sprintf(" loopresult.%d(24) select(1,%d,%d)", i, 25+2*i, min(i, 7))
	}
	checkText(t, s+"} return o; }", want+" = 54 26")
}

// 8.4: a variable that the loop does not assign keeps its node, inside and after it.
func TestOtherVariables(t *testing.T) {
	checkText(t, "func f(a, b) var c { c = b + 1; while (a) { a = c; if (b) { out c; } } return c; }",
		"entry param.0 param.1 const.0 const.1 add(2,4) loopvar.0 loopvar.1 output(6,5) select(2,8,6) loop.0(0,1,5,9,5) "+
			"loopresult.0(10) select(1,11,0) loopresult.1(10) select(1,13,1) = 5 12")
}

// 8.4: a loop variable may be set to what it was, and merged with a node like its result.
func TestLoopsThatChangeNothing(t *testing.T) {
	checkText(t, "func f(a, b) { while (a) { b = b; } return b; }",
		"entry param.0 param.1 loopvar.0 loopvar.1 loop.0(0,2,1,3,4) loopresult.0(5) select(1,6,0) loopresult.1(5) select(1,8,2) = 9 7")
	checkText(t, "func f(a) { while (0) { a = 1; } return a; }",
		"entry param.0 const.0 loopvar.0 loopvar.1 const.1 loop.0(0,1,2,3,5) loopresult.0(6) select(2,7,0) loopresult.1(6) select(2,9,1) = 10 8")
}

// 8.4: what comes after a loop, and in the alternatives around it, has the merged values.
func TestLoopsInAlternatives(t *testing.T) {
	checkText(t, "func f(a, b) { if (b) { while (a) { a = b; } } else { a = 1; } return a; }",
		"entry param.0 param.1 loopvar.0 loopvar.1 loop.0(0,1,2,3,2) loopresult.0(5) select(1,6,0) loopresult.1(5) select(1,8,1) "+
			"const.1 select(2,9,10) select(2,7,0) = 11 12")
	checkText(t, "func f(a, b) { while (a) { if (b) { a = b; } } return a; }",
		"entry param.0 param.1 loopvar.0 loopvar.1 select(2,2,4) loop.0(0,1,5,3,5) loopresult.0(6) select(1,7,0) loopresult.1(6) select(1,9,1) = 10 8")
}

// 8.4: the initial values of a nested loop are those of the place where it is.
func TestNestedLoops(t *testing.T) {
	checkText(t, "func f(a, b) { while (a) { while (b) { b = b - a; out b; } a = b; } return a; }",
		"entry param.0 param.1 loopvar.0 loopvar.1 loopvar.2 loopvar.16 loopvar.17 sub(7,4) output(6,8) loop.1(3,5,8,9,8) "+
			"loopresult.0(10) select(5,11,3) loopresult.1(10) select(5,13,5) loop.0(0,1,2,14,12,14,14) "+
			"loopresult.0(15) select(1,16,0) loopresult.1(15) select(1,18,1) loopresult.2(15) select(1,20,2) = 19 17")
}

// loopNumbers returns the numbers of the loops by the order of their nodes.
func loopNumbers(t *testing.T, s string) string {
	t.Helper()
	var l []string
	for _, n := range mustLower(t, s, parse(t, s)).Funcs[0].Nodes {
		if n.Op == api.OpLoop {
			l = append(l, fmt.Sprint(n.Imm))
		}
	}
	return strings.Join(l, " ")
}

// 8.4: a loop takes its number before the loops nested in it and after those before it.
func TestLoopNumbers(t *testing.T) {
	for body, want := range map[string]string{
		"":                            "",
		"while (a) { }":               "0",
		"while (a) { } while (a) { }": "0 1",
		"while (a) { while (a) { } }": "1 0",
		"while (a) { while (a) { } while (a) { while (a) { } } } while (a) { while (a) { } }": "1 3 2 0 5 4",
		"if (a) { while (a) { } } else { while (a) { } } while (a) { }":                       "0 1 2",
		"while (a) { if (a) { while (a) { } } else { while (a) { } } } while (a) { }":         "1 2 0 3",
	} {
		if got := loopNumbers(t, "func f(a) { "+body+" return a; }"); got != want {
			t.Errorf("%s: the loops have the numbers %s, not %s", body, got, want)
		}
	}
	row, nest := strings.Repeat("while (a) { } ", api.MaxLoops), strings.Repeat("while (a) { ", api.MaxLoops)+strings.Repeat("} ", api.MaxLoops)
	if got := loopNumbers(t, "func f(a) { "+row+"return a; }"); got != "0 1 2 3 4 5 6 7 8 9 10 11 12 13 14 15" {
		t.Errorf("a row of loops has the numbers %s", got)
	}
	if got := loopNumbers(t, "func f(a) { "+nest+"return a; }"); got != "15 14 13 12 11 10 9 8 7 6 5 4 3 2 1 0" {
		t.Errorf("nested loops have the numbers %s", got)
	}
}
