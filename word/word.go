// Package word is the arithmetic on 64-bit words that the interpreter, the graph evaluator and the machine share.
package word

import (
	"strconv"
	"strings"

	"fulling/api"
)

// Unary returns the result of OpNeg or OpNot, and 0 for every other operation.
func Unary(op int, a int64) int64 {
	switch op {
	case api.OpNeg:
		return -a
	case api.OpNot:
		return ^a
	}
	return 0
}

// Binary returns the result of OpAdd to OpLtu, and 0 for every other operation.
func Binary(op int, a, b int64) int64 {
	switch op {
	case api.OpAdd:
		return a + b
	case api.OpSub:
		return a - b
	case api.OpMul:
		return a * b
	case api.OpDiv:
		return quotient(a, b)
	case api.OpRem:
		return remainder(a, b)
	case api.OpAnd:
		return a & b
	case api.OpOr:
		return a | b
	case api.OpXor:
		return a ^ b
	case api.OpShl:
		return a << shiftCount(b)
	case api.OpShr:
		return int64(uint64(a) >> shiftCount(b))
	case api.OpSar:
		return a >> shiftCount(b)
	case api.OpEq:
		return truth(a == b)
	case api.OpNe:
		return truth(a != b)
	case api.OpLt:
		return truth(a < b)
	case api.OpLe:
		return truth(a <= b)
	case api.OpLtu:
		return truth(uint64(a) < uint64(b))
	}
	return 0
}

func quotient(a, b int64) int64 {
	if b == 0 {
		return 0
	}
	return a / b
}

func remainder(a, b int64) int64 {
	if b == 0 {
		return 0
	}
	return a % b
}

// shiftCount is unsigned because Go panics for a shift by a negative count.
func shiftCount(b int64) uint64 {
	return uint64(b) & 63
}

func truth(holds bool) int64 {
	if holds {
		return 1
	}
	return 0
}

// Text formats a word in decimal.
func Text(n int64) string {
	return strconv.FormatInt(n, 10)
}

// Parse is the inverse of Text.
func Parse(s string) (int64, bool) {
	digits, negative := strings.CutPrefix(s, "-")
	var n int64
	for i := 0; i < len(digits); i++ {
		n = 10*n + int64(digits[i]) - '0'
	}
	if negative {
		n = -n
	}
	// The loop neither looks for other characters than digits nor for an overflow:
	// whatever it computes from a string that is not the text of a word, the text of the result is a different string.
	if Text(n) != s {
		return 0, false
	}
	return n, true
}
