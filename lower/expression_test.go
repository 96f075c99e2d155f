package lower_test

import (
	"fmt"
	"testing"

	"fulling/api"
)

// 8.2: numbers and variables
func TestLeaves(t *testing.T) {
	for _, n := range []int64{0, 1, -1, 12345, -1 << 63, 1<<63 - 1} {
		checkText(t, fmt.Sprintf("func f() { return %d; }", n), fmt.Sprintf("entry const.%d = 1 0", n))
	}
	checkText(t, "func f(a, b) { a = b; b = 3; return a; }", "entry param.0 param.1 const.3 = 2 0")
}

// 8.2: each operation, with the operands in their order
func TestOperations(t *testing.T) {
	for operator, name := range map[string]string{
		"+": "add", "-": "sub", "*": "mul", "&": "and", "|": "or", "^": "xor", "<<": "shl", ">>>": "shr", ">>": "sar",
		"==": "eq", "!=": "ne", "<": "lt", "<=": "le",
	} {
		checkText(t, "func f(a, b) { return a "+operator+" b; }", "entry param.0 param.1 "+name+"(1,2) = 3 0")
		checkText(t, "func f(a, b) { return b "+operator+" a; }", "entry param.0 param.1 "+name+"(2,1) = 3 0")
		checkText(t, "func f(a) { return a "+operator+" 0; }", "entry param.0 const.0 "+name+"(1,2) = 3 0")
		checkText(t, "func f(a) { return -a "+operator+" ~a; }", "entry param.0 neg(1) not(1) "+name+"(2,3) = 4 0")
	}
	checkText(t, "func f(a, b) { return a > b; }", "entry param.0 param.1 lt(2,1) = 3 0")
	checkText(t, "func f(a, b) { return a >= b; }", "entry param.0 param.1 le(2,1) = 3 0")
	checkText(t, "func f(a) { return -a; }", "entry param.0 neg(1) = 2 0")
	checkText(t, "func f(a) { return ~a; }", "entry param.0 not(1) = 2 0")
	checkText(t, "func f(a) { return !a; }", "entry param.0 const.0 eq(1,2) = 3 0")
	checkText(t, "func f() { return 2 + 3 * -(4); }", "entry const.2 const.3 const.4 neg(3) mul(2,4) add(1,5) = 6 0")
	checkText(t, "func f() { return 1 + 1; }", "entry const.1 add(1,1) = 2 0")
}

// 8.2: the guard of a division comes after both operands.
func TestDivisions(t *testing.T) {
	checkText(t, "func f(a, b) { return a / b; }", "entry param.0 param.1 const.0 ne(2,3) guard.1(0,4) div(1,2) = 6 5")
	checkText(t, "func f(a, b) { return a % b; }", "entry param.0 param.1 const.0 ne(2,3) guard.1(0,4) rem(1,2) = 6 5")
	checkText(t, "func f(a) { return a / 5; }", "entry param.0 const.5 const.0 ne(2,3) guard.1(0,4) div(1,2) = 6 5")
	checkText(t, "func f(a) { return a / 0; }", "entry param.0 const.0 ne(2,2) guard.1(0,3) div(1,2) = 5 4")
	checkText(t, "func f(a, b) { return a / b + a % b; }",
		"entry param.0 param.1 const.0 ne(2,3) guard.1(0,4) div(1,2) guard.1(5,4) rem(1,2) add(6,8) = 9 7")
	checkText(t, "func f(a, b) { return (a / b) / (b / a); }",
		"entry param.0 param.1 const.0 ne(2,3) guard.1(0,4) div(1,2) ne(1,3) guard.1(5,7) div(2,1) ne(9,3) guard.1(8,10) div(6,9) = 12 11")
}

// 8.2: the guard of an index comes after the index and before the load.
func TestElements(t *testing.T) {
	checkText(t, "array x 5; func f(a) { return x[a]; }", "entry param.0 const.5 ltu(1,2) guard.2(0,3) load.0(4,1) = 5 4")
	checkText(t, "array x 5; func f() { return x[5]; }", "entry const.5 ltu(1,1) guard.2(0,2) load.0(3,1) = 4 3")
	checkText(t, "array x 5; func f() { return x[-1]; }", "entry const.-1 const.5 ltu(1,2) guard.2(0,3) load.0(4,1) = 5 4")
	checkText(t, "array x 1; array y 16; array z 7; func f(a) { return z[y[a]]; }",
		"entry param.0 const.16 ltu(1,2) guard.2(0,3) load.1(4,1) const.7 ltu(5,6) guard.2(4,7) load.2(8,5) = 9 8")
	checkText(t, "array x 5; func f(a) { return x[1 / a]; }",
		"entry param.0 const.1 const.0 ne(1,3) guard.1(0,4) div(2,1) const.5 ltu(6,7) guard.2(5,8) load.0(9,6) = 10 9")
	for i, name := range []string{"x", "y", "z", "w"} {
		checkText(t, "array x 2; array y 3; array z 4; array w 5; func f(a) { return "+name+"[a]; }",
			fmt.Sprintf("entry param.0 const.%d ltu(1,2) guard.2(0,3) load.%d(4,1) = 5 4", 2+i, i))
	}
}

// 8.2: both alternatives start from the state after the condition; the values are merged before the states.
func TestConditionals(t *testing.T) {
	checkText(t, "func f(a, b, c) { return a ? b : c; }", "entry param.0 param.1 param.2 select(1,2,3) = 4 0")
	checkText(t, "func f(a, b) { return a ? b : b; }", "entry param.0 param.1 = 2 0")
	checkText(t, "func f(a) { return a ? a : 0; }", "entry param.0 const.0 select(1,1,2) = 3 0")
	checkText(t, "func f() { return 1 ? 2 : 3; }", "entry const.1 const.2 const.3 select(1,2,3) = 4 0")
	checkText(t, "func f(a, b) { return a ? 1 / b : 2; }",
		"entry param.0 param.1 const.1 const.0 ne(2,4) guard.1(0,5) div(3,2) const.2 select(1,7,8) select(1,6,0) = 9 10")
	checkText(t, "func f(a, b) { return a ? 2 : 1 / b; }",
		"entry param.0 param.1 const.2 const.1 const.0 ne(2,5) guard.1(0,6) div(4,2) select(1,3,8) select(1,0,7) = 9 10")
	checkText(t, "func f(a, b) { return a / b ? 1 / a : 2 / a; }",
		"entry param.0 param.1 const.0 ne(2,3) guard.1(0,4) div(1,2) const.1 ne(1,3) guard.1(5,8) div(7,1) const.2 div(11,1) select(6,10,12) = 13 9")
	checkText(t, "array x 4; array y 4; func f(a) { return x[a] ? x[1] : y[2]; }",
		"entry param.0 const.4 ltu(1,2) guard.2(0,3) load.0(4,1) const.1 ltu(6,2) guard.2(4,7) load.0(8,6) "+
			"const.2 ltu(10,2) guard.2(4,11) load.1(12,10) select(5,9,13) select(5,8,12) = 14 15")
}

// 8.2: the same value but different states, and what comes after a merge
func TestStatesOfConditionals(t *testing.T) {
	checkText(t, "func f(a, b) { return (a ? (1 / b) * 0 : (2 / a) * 0) / b; }",
		"entry param.0 param.1 const.1 const.0 ne(2,4) guard.1(0,5) div(3,2) mul(7,4) const.2 ne(1,4) guard.1(0,10) div(9,1) mul(12,4) "+
			"select(1,8,13) select(1,6,11) guard.1(15,5) div(14,2) = 17 16")
	checkText(t, "func f(a, b) { return a ? b : a ? b : b; }", "entry param.0 param.1 = 2 0")
	checkText(t, "array x 2; func f(a) { return a ? 0 & x[1] ? 5 : 5 : 5; }",
		"entry param.0 const.0 const.1 const.2 ltu(3,4) guard.2(0,5) load.0(6,3) and(2,7) const.5 select(1,6,0) = 9 10")
	checkText(t, "func f(a, b) { return a ? (b ? 1 : 2) : 3; }",
		"entry param.0 param.1 const.1 const.2 select(2,3,4) const.3 select(1,5,6) = 7 0")
	checkText(t, "func f(a, b) { return (a ? b : 1) ? 2 : 3; }",
		"entry param.0 param.1 const.1 select(1,2,3) const.2 const.3 select(4,5,6) = 7 0")
}

// 8.2: operands come in order, with the state that the earlier ones leave.
func TestOrderOfOperands(t *testing.T) {
	checkText(t, "array x 3; func f(a) { return x[a] - x[1]; }",
		"entry param.0 const.3 ltu(1,2) guard.2(0,3) load.0(4,1) const.1 ltu(6,2) guard.2(4,7) load.0(8,6) sub(5,9) = 10 8")
	checkText(t, "func f(a, b) { return 5 - 1 / a - 2 / b; }",
		"entry param.0 param.1 const.5 const.1 const.0 ne(1,5) guard.1(0,6) div(4,1) sub(3,8) const.2 ne(2,5) guard.1(7,11) div(10,2) sub(9,13) = 14 12")
	checkText(t, "func f(a, b) { return (a ? 1 / b : 0) + 1 / a; }",
		"entry param.0 param.1 const.1 const.0 ne(2,4) guard.1(0,5) div(3,2) select(1,7,4) select(1,6,0) ne(1,4) guard.1(9,10) div(3,1) add(8,12) = 13 11")
}

func num(n int64) api.Expr {
	return api.Expr{Kind: api.ExprNum, N: n}
}

func variable(name string) api.Expr {
	return api.Expr{Kind: api.ExprVar, Name: name}
}

func element(name string, index api.Expr) api.Expr {
	return api.Expr{Kind: api.ExprIndex, Name: name, Kids: []api.Expr{index}}
}

func operation(op int, kids ...api.Expr) api.Expr {
	return api.Expr{Kind: api.ExprOp, Op: op, Kids: kids}
}

func choice(kids ...api.Expr) api.Expr {
	return api.Expr{Kind: api.ExprCond, Kids: kids}
}
