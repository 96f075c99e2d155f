package ir_test

import (
	"math"
	"testing"

	"fulling/api"
	"fulling/ir"
)

// 7.1
func TestArity(t *testing.T) {
	operations := 0
	for count, list := range map[int][]int{
		0: {api.OpConst, api.OpParam, api.OpLoopVar, api.OpEntry},
		1: {api.OpNeg, api.OpNot, api.OpCallResult, api.OpLoopResult},
		2: {
			api.OpAdd, api.OpSub, api.OpMul, api.OpDiv, api.OpRem, api.OpAnd, api.OpOr, api.OpXor, api.OpShl, api.OpShr, api.OpSar,
			api.OpEq, api.OpNe, api.OpLt, api.OpLe, api.OpLtu, api.OpLoad, api.OpGuard, api.OpOutput,
		},
		3:  {api.OpSelect, api.OpStore},
		-1: {api.OpCall, api.OpLoop},
	} {
		for _, op := range list {
			operations++
			if got, ok := ir.Arity(op); got != count || !ok {
				t.Errorf("Arity(%d) returns %d, %v, not %d", op, got, ok, count)
			}
		}
	}
	if operations != api.OpLoop {
		t.Errorf("%d operations are tested, not %d", operations, api.OpLoop)
	}
}

// 7.1
func TestArityOfUnknownOperations(t *testing.T) {
	for _, op := range []int{0, -1, -api.OpAdd, api.OpLoop + 1, api.OpLoop + 2, 256 + api.OpAdd, 1<<32 + api.OpAdd, math.MinInt, math.MinInt + api.OpAdd, math.MaxInt} {
		if got, ok := ir.Arity(op); got != 0 || ok {
			t.Errorf("Arity(%d) returns %d, %v", op, got, ok)
		}
	}
}
