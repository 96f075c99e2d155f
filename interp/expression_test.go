package interp_test

import (
	"fmt"
	"math"
	"strconv"
	"testing"

	"fulling/api"
)

const smallest = math.MinInt64

// value is the text of a function f of a and b that returns the value of an expression.
func value(e string) string {
	return "array x 4; func f(a, b) { x[0] = 10; x[1] = -20; x[2] = 2; return " + e + "; }"
}

func checkValue(t *testing.T, e string, want int64, args ...int64) {
	t.Helper()
	checkRun(t, value(e), returned(want), append(args, make([]int64, 2-len(args))...)...)
}

func checkTrap(t *testing.T, e string, code int, args ...int64) {
	t.Helper()
	checkRun(t, value(e), trapped(code), append(args, make([]int64, 2-len(args))...)...)
}

// 6.2
func TestNumbersAndVariables(t *testing.T) {
	for _, n := range []int64{0, 1, -1, 7, math.MaxInt64, smallest} {
		checkValue(t, strconv.FormatInt(n, 10), n)
		checkValue(t, "a", n, n, 5)
		checkValue(t, "b", n, 5, n)
	}
}

// 6.2: each operation, with the operands in their order
func TestOperations(t *testing.T) {
	for e, want := range map[string]int64{
		"a + b": 14, "a - b": 6, "a * b": 40, "a / b": 2, "a % b": 2, "a & b": 0, "a | b": 14, "a ^ b": 14,
		"a << b": 160, "a >> b": 0, "a >>> b": 0, "b << a": 4096, "-a >> b": -1, "-a >>> b": 1<<60 - 1,
		"a == b": 0, "a != b": 1, "a < b": 0, "a <= b": 0, "a > b": 1, "a >= b": 1,
		"b < a": 1, "b <= a": 1, "b > a": 0, "b >= a": 0, "a == a": 1, "a != a": 0, "a < a": 0, "a <= a": 1,
		"-a": -10, "~a": -11, "!a": 0, "!(a - a)": 1, "b - a": -6, "b / a": 0, "b % a": 4, "-a / b": -2, "-a % b": -2,
	} {
		checkValue(t, e, want, 10, 4)
	}
}

// 6.2: the arithmetic of package word
func TestArithmeticOfWords(t *testing.T) {
	checkValue(t, "a + b", smallest, math.MaxInt64, 1)
	checkValue(t, "a - b", math.MaxInt64, smallest, 1)
	checkValue(t, "a * b", smallest, smallest, -1)
	checkValue(t, "a / b", smallest, smallest, -1)
	checkValue(t, "a % b", 0, smallest, -1)
	checkValue(t, "-a", smallest, smallest)
	checkValue(t, "a << b", 1, 1, 64)
	checkValue(t, "a << b", smallest, 1, -1)
	checkValue(t, "a >> b", -1, -1, 63)
	checkValue(t, "a >>> b", 1, -1, 63)
	checkValue(t, "a < b", 1, smallest, math.MaxInt64)
	checkValue(t, "a <= b", 0, 1, -1)
}

// 6.2
func TestNestedOperations(t *testing.T) {
	checkValue(t, "2 + 3 * 4", 14)
	checkValue(t, "(2 + 3) * 4", 20)
	checkValue(t, "a - (b - (a - b))", 4, 5, 3)
	checkValue(t, "a - b - 1", 6, 9, 2)
	checkValue(t, "-(~(-(a))) + !b", -3, 5, 0)
	checkValue(t, "a * a - b * b == (a + b) * (a - b)", 1, 123456789123, -987654321987)
}

// 6.2
func TestDivisionByZero(t *testing.T) {
	for _, dividend := range []int64{0, 1, -1, math.MaxInt64, smallest} {
		checkTrap(t, "a / b", api.TrapDiv, dividend)
		checkTrap(t, "a % b", api.TrapDiv, dividend)
		checkTrap(t, "a / 0", api.TrapDiv, dividend)
		checkTrap(t, "a % (b - b)", api.TrapDiv, dividend, 8)
		for _, e := range []string{"a + b", "a - b", "a ^ b", "a | b", "a << b", "a >> b", "a >>> b"} {
			checkValue(t, e, dividend, dividend)
		}
		checkValue(t, "a * b", 0, dividend)
		checkValue(t, "a & b", 0, dividend)
	}
	checkValue(t, "a / b", 0, 0, 3)
	checkValue(t, "a % b", 0, 0, 3)
}

// 6.2: the trap of a division comes after its operands, whose traps come in order.
func TestOrderOfOperands(t *testing.T) {
	for _, operator := range []string{"+", "-", "*", "/", "%", "&", "|", "^", "<<", ">>", ">>>", "==", "!=", "<", "<="} {
		checkTrap(t, "(1 / b) "+operator+" x[9]", api.TrapDiv)
		checkTrap(t, "x[9] "+operator+" (1 / b)", api.TrapIndex)
		checkTrap(t, "x[9] "+operator+" 0", api.TrapIndex)
		checkTrap(t, "0 "+operator+" x[9]", api.TrapIndex)
	}
	// The parser exchanges the operands of these.
	for _, operator := range []string{">", ">="} {
		checkTrap(t, "(1 / b) "+operator+" x[9]", api.TrapIndex)
		checkTrap(t, "x[9] "+operator+" (1 / b)", api.TrapDiv)
	}
	checkTrap(t, "a / (b / x[4])", api.TrapIndex)
	checkTrap(t, "x[4] / b", api.TrapIndex)
	checkTrap(t, "-x[4]", api.TrapIndex)
	checkTrap(t, "~(1 % b)", api.TrapDiv)
	checkTrap(t, "!(1 % b)", api.TrapDiv)
}

// 6.2: an operation is evaluated completely, even if one operand determines its result.
func TestNoShortCircuit(t *testing.T) {
	for _, e := range []string{"0 & 1 / b", "-1 | 1 / b", "0 * (1 / b)", "a - a == 1 / b", "0 / (1 / b)"} {
		checkTrap(t, e, api.TrapDiv, 3)
	}
}

// 6.2
func TestElements(t *testing.T) {
	checkValue(t, "x[0]", 10)
	checkValue(t, "x[1]", -20)
	checkValue(t, "x[a]", 2, 2)
	checkValue(t, "x[a - b]", 0, 7, 4)
	checkValue(t, "x[x[2]]", 2)
	checkValue(t, "x[x[0] / 10] + x[3]", -20)
	checkTrap(t, "x[x[1]]", api.TrapIndex)
	checkTrap(t, "x[1 / b]", api.TrapDiv)
}

// 6.2: the bounds of arrays of each length
func TestBoundsOfElements(t *testing.T) {
	for n := 1; n <= api.MaxLen; n++ {
		s := fmt.Sprintf("array w %d; array x %d; array y %d; func f(a) var i { while (i < %d) { x[i] = 100 + i; i = i + 1; } return x[a]; }", api.MaxLen, n, api.MaxLen, n)
		for i := range int64(n) {
			checkFueled(t, s, n, returned(100+i), i)
		}
		for _, i := range []int64{-1, -2, -int64(n), int64(n), int64(n) + 1, 16, 17, 1 << 32, 1<<32 + 1, -1 << 32, math.MaxInt64, smallest, smallest + 1} {
			checkFueled(t, s, n, trapped(api.TrapIndex), i)
		}
	}
}

// 6.2: arrays do not share cells.
func TestArraysAreSeparate(t *testing.T) {
	checkRun(t, "array x 2; array y 2; array f 1; func f() { x[1] = 5; y[0] = 6; f[0] = 7; out x[0]; out x[1]; out y[0]; out y[1]; return f[0]; }",
		returned(7, 0, 5, 6, 0))
}

// 6.2: only the alternative that is the result is evaluated.
func TestConditionalExpressions(t *testing.T) {
	for _, c := range []int64{1, -1, 2, smallest, math.MaxInt64, 1 << 32} {
		checkValue(t, "a ? 5 : 6", 5, c)
		checkValue(t, "a ? b : 1 / 0", 8, c, 8)
		checkValue(t, "a ? 5 : x[4]", 5, c)
		checkTrap(t, "a ? 1 / 0 : x[4]", api.TrapDiv, c)
		checkTrap(t, "a ? x[4] : 1 / 0", api.TrapIndex, c)
	}
	checkValue(t, "a ? 5 : 6", 6, 0)
	checkValue(t, "a ? 1 / 0 : b", 8, 0, 8)
	checkValue(t, "a ? x[4] : 6", 6, 0)
	checkTrap(t, "a ? 1 / 0 : x[4]", api.TrapIndex, 0)
	checkTrap(t, "a ? x[4] : 1 / 0", api.TrapDiv, 0)
	checkTrap(t, "1 / a ? x[4] : x[5]", api.TrapDiv)
	checkTrap(t, "x[4] ? 1 / 0 : 2 / 0", api.TrapIndex)
}

// 6.2
func TestNestedConditionalExpressions(t *testing.T) {
	for a := range int64(2) {
		for b := range int64(2) {
			checkValue(t, "a ? b ? 1 : 2 : b ? 3 : 4", 4-2*a-b, a, b)
			checkValue(t, "(a ? b : !b) ? 5 : 6", 5+(a^b), a, b)
		}
	}
	checkValue(t, "x[a ? 1 : 9] + (b ? 1 / b : 1)", -19, 3, 0)
}
