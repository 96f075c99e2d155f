package lower_test

import (
	"fmt"
	"testing"
)

// 8.3: StmtAssign
func TestAssignments(t *testing.T) {
	checkText(t, "func f(a, b) var c { c = a + b; b = c; a = a; return b; }", "entry param.0 param.1 const.0 add(1,2) = 4 0")
	checkText(t, "func f(a, b) { a = a + 1; a = a + 1; return a - b; }", "entry param.0 param.1 const.1 add(1,3) add(4,3) sub(5,2) = 6 0")
	checkText(t, "func f(a, b) { a = 1 / b; return b; }", "entry param.0 param.1 const.1 const.0 ne(2,4) guard.1(0,5) div(3,2) = 2 6")
	checkText(t, "func f(a, b) var c { c = a; a = b; b = c; return a - b; }", "entry param.0 param.1 const.0 sub(2,1) = 4 0")
}

// 8.3: StmtStore translates At, then Value, and guards the index after both.
func TestStores(t *testing.T) {
	checkText(t, "array x 3; func f(a, b) { x[a] = b; return a; }",
		"entry param.0 param.1 const.3 ltu(1,3) guard.2(0,4) store.0(5,1,2) = 1 6")
	checkText(t, "array y 9; array x 3; func f(a, b) { x[b] = 3; return a; }",
		"entry param.0 param.1 const.3 ltu(2,3) guard.2(0,4) store.1(5,2,3) = 1 6")
	checkText(t, "array x 3; array y 4; func f(a) { x[y[a]] = 1 / a; return 0; }",
		"entry param.0 const.4 ltu(1,2) guard.2(0,3) load.1(4,1) const.1 const.0 ne(1,7) guard.1(4,8) div(6,1) const.3 ltu(5,11) guard.2(9,12) "+
			"store.0(13,5,10) = 7 14")
	checkText(t, "array x 3; func f(a) { x[a] = x[a] + 1; return x[a]; }",
		"entry param.0 const.3 ltu(1,2) guard.2(0,3) load.0(4,1) const.1 add(5,6) guard.2(4,3) store.0(8,1,7) guard.2(9,3) load.0(10,1) = 11 10")
	for i, name := range []string{"x", "y", "z", "w"} {
		checkText(t, "array x 2; array y 3; array z 4; array w 5; func f(a) { "+name+"[a] = a; return a; }",
			fmt.Sprintf("entry param.0 const.%d ltu(1,2) guard.2(0,3) store.%d(4,1,1) = 1 5", 2+i, i))
	}
}

// 8.3: StmtOut
func TestOutputs(t *testing.T) {
	checkText(t, "func f(a) { out a; out a; out 1; return a; }", "entry param.0 output(0,1) output(2,1) const.1 output(3,4) = 1 5")
	checkText(t, "func f(a) { out 1 / a; return a; }", "entry param.0 const.1 const.0 ne(1,3) guard.1(0,4) div(2,1) output(5,6) = 1 7")
}

// 8.3: StmtTrap
func TestTraps(t *testing.T) {
	for _, n := range []int{0, 1, 2, 15, 16, 999999, 1000000} {
		checkText(t, fmt.Sprintf("func f(a) { trap %d; return a; }", n), fmt.Sprintf("entry param.0 const.0 guard.%d(0,2) = 1 3", 16+n))
	}
	checkText(t, "func f(a) var b { trap 3; trap 3; out 5; trap 4; return a / b; }",
		"entry param.0 const.0 guard.19(0,2) guard.19(3,2) const.5 output(4,5) guard.20(6,2) ne(2,2) guard.1(7,8) div(1,2) = 10 9")
}

// 8.3: StmtCall
func TestCalls(t *testing.T) {
	functions := " func g() { return 0; } func h(a, b, c, d, e, f) { return 0; }"
	checkText(t, "func f(a) { a = f(a); return a; }"+functions, "entry param.0 call.0(0,1) callresult(2) = 3 2")
	checkText(t, "func f(a) { a = g(); return a; }"+functions, "entry param.0 call.1(0) callresult(2) = 3 2")
	checkText(t, "func f(a) { a = h(1, 2, a, 4, a, 1); return a; }"+functions,
		"entry param.0 const.1 const.2 const.4 call.2(0,2,3,1,4,1,2) callresult(5) = 6 5")
	checkText(t, "func f(a) { a = f(1 / a); return 3; }"+functions,
		"entry param.0 const.1 const.0 ne(1,3) guard.1(0,4) div(2,1) call.0(5,6) callresult(7) const.3 = 9 7")
	checkText(t, "func f(a, b) { b = f(1 / a, 2 / b); a = g(); out b; return b; }"+functions,
		"entry param.0 param.1 const.1 const.0 ne(1,4) guard.1(0,5) div(3,1) const.2 ne(2,4) guard.1(6,9) div(8,2) call.0(10,7,11) callresult(12) "+
			"call.1(12) callresult(14) output(14,13) = 13 16")
	checkText(t, "func f(a) var b { b = g(); b = g(); return a; }"+functions,
		"entry param.0 const.0 call.1(0) callresult(3) call.1(3) callresult(5) = 1 5")
}

// 8.3: StmtIf merges the parameters first, then the local variables, finally the state.
func TestAlternatives(t *testing.T) {
	checkText(t, "func f(b, a) var d, c { if (a) { c = 1; d = 2; a = 3; b = 4; out 5; } else { out 6; } return a; }",
		"entry param.0 param.1 const.0 const.1 const.2 const.3 const.4 const.5 output(0,8) const.6 output(0,10) "+
			"select(2,7,1) select(2,6,2) select(2,5,3) select(2,4,3) select(2,9,11) = 13 16")
	checkText(t, "func f(b, a) var d, c { if (a) { } else { c = 1; d = 2; a = 3; b = 4; out 5; } return b; }",
		"entry param.0 param.1 const.0 const.1 const.2 const.3 const.4 const.5 output(0,8) "+
			"select(2,1,7) select(2,2,6) select(2,3,5) select(2,3,4) select(2,0,9) = 10 14")
	checkText(t, "func f(a, b) { if (a) { b = 1; } return b; }", "entry param.0 param.1 const.1 select(1,3,2) = 4 0")
	checkText(t, "func f(a, b) { if (a) { b = 1; } else { b = 2; } return b; }",
		"entry param.0 param.1 const.1 const.2 select(1,3,4) = 5 0")
	checkText(t, "func f(a) { if (a) { } else { } return a; }", "entry param.0 = 1 0")
	checkText(t, "func f(a) { if (a) { out 1; } return a; }", "entry param.0 const.1 output(0,2) select(1,3,0) = 1 4")
}

// 8.3: the merge of one node with itself is this node.
func TestEqualAlternatives(t *testing.T) {
	checkText(t, "func f(a, b) { if (a) { b = 1; out b; } else { b = 1; out 1; } return b; }",
		"entry param.0 param.1 const.1 output(0,3) = 3 4")
	checkText(t, "func f(a, b) { if (a) { b = 1; b = a; } else { b = a; } return b; }", "entry param.0 param.1 const.1 = 1 0")
	checkText(t, "func f(a, b) var c { if (1 / a) { b = a; c = a; } else { b = a; } return b; }",
		"entry param.0 param.1 const.0 const.1 ne(1,3) guard.1(0,5) div(4,1) select(7,1,3) = 1 6")
}

// 8.3: Then and Else both start from the variables and the state after Value.
func TestStartsOfAlternatives(t *testing.T) {
	checkText(t, "array x 3; func f(a, b) { if (x[a]) { b = b + 1; x[0] = b; } else { b = b + 2; out b; } return b; }",
		"entry param.0 param.1 const.3 ltu(1,3) guard.2(0,4) load.0(5,1) const.1 add(2,7) const.0 ltu(9,3) guard.2(5,10) store.0(11,9,8) "+
			"const.2 add(2,13) output(5,14) select(6,8,14) select(6,12,15) = 16 17")
	checkText(t, "func f(a) { if (a) { a = 0; out 1; } else { out a; } return a; }",
		"entry param.0 const.0 const.1 output(0,3) output(0,1) select(1,2,1) select(1,4,5) = 6 7")
}

// 8.3: the condition of the outer merges is the outer Value, whatever is assigned meanwhile.
func TestNestedAlternatives(t *testing.T) {
	checkText(t, "func f(a, b) { if (a) { if (b) { a = 1; } else { a = 2; b = 3; } } else { if (b) { out 4; } } return a; }",
		"entry param.0 param.1 const.1 const.2 const.3 select(2,3,4) select(2,2,5) const.4 output(0,8) select(2,9,0) "+
			"select(1,6,1) select(1,7,2) select(1,0,10) = 11 13")
	checkText(t, "func f(a) { if (a) { a = 0; if (a) { a = 5; } } if (a) { out 1; } return a; }",
		"entry param.0 const.0 const.5 select(2,3,2) select(1,4,1) const.1 output(0,6) select(5,7,0) = 5 8")
}
