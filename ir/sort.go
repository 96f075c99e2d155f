package ir

import (
	"math"

	"fulling/api"
)

type sort uint8

const (
	malformed sort = iota
	value
	state
	loop
)

// loopVarStride is what a loop number is multiplied with in the Imm of an OpLoopVar.
const loopVarStride = 16

// sortsOfUsed returns the sorts of node i and of all nodes that it uses; the others are left out as malformed.
// It returns false if there is no node i or it is malformed. It does not recurse, because a list may be a long chain.
func sortsOfUsed(l []api.Node, i int) ([]sort, bool) {
	used, ok := markUsed(l, i)
	if !ok {
		return nil, false
	}
	sorts := make([]sort, len(used))
	for j := range used {
		if !used[j] {
			continue
		}
		sorts[j] = sortOf(l, j, sorts)
		if sorts[j] == malformed {
			return nil, false
		}
	}
	return sorts, true
}

// markUsed returns false if there is no node i, or if it or a node that it uses has wrong operands.
func markUsed(l []api.Node, i int) ([]bool, bool) {
	if i < 0 || i >= len(l) {
		return nil, false
	}
	used := make([]bool, i+1)
	used[i] = true
	for j := i; j >= 0; j-- {
		if !used[j] {
			continue
		}
		if !hasEarlierOperands(l, j) {
			return nil, false
		}
		for _, kid := range l[j].Kids {
			used[kid] = true
		}
	}
	return used, true
}

// sortsOfAll returns false if a node is malformed.
func sortsOfAll(l []api.Node) ([]sort, bool) {
	sorts := make([]sort, len(l))
	for i := range l {
		if hasEarlierOperands(l, i) {
			sorts[i] = sortOf(l, i, sorts)
		}
		if sorts[i] == malformed {
			return nil, false
		}
	}
	return sorts, true
}

// hasEarlierOperands reports whether node i has as many operands as its operation needs, and all of them are earlier nodes.
func hasEarlierOperands(l []api.Node, i int) bool {
	if !hasOperandCount(l[i]) {
		return false
	}
	for _, kid := range l[i].Kids {
		if kid < 0 || kid >= i {
			return false
		}
	}
	return true
}

func hasOperandCount(n api.Node) bool {
	switch n.Op {
	case api.OpCall:
		return len(n.Kids) >= 1 && len(n.Kids) <= 1+api.MaxParams
	case api.OpLoop:
		k := variableCount(n)
		return len(n.Kids) == 2*k+1 && k >= 1 && k <= api.MaxVars
	}
	k, known := Arity(n.Op)
	return known && len(n.Kids) == k
}

// variableCount returns the number of variables of an OpLoop.
func variableCount(n api.Node) int {
	return len(n.Kids) / 2
}

// sortOf returns the sort of node i, which has earlier operands, from the sorts of the operands.
func sortOf(l []api.Node, i int, sorts []sort) sort {
	n := l[i]
	least, most := immediateRange(n.Op)
	if n.Imm < least || n.Imm > most {
		return malformed
	}
	if n.Op == api.OpSelect {
		return selectionSort(sorts[n.Kids[0]], sorts[n.Kids[1]], sorts[n.Kids[2]])
	}
	for at, kid := range n.Kids {
		if sorts[kid] != operandSort(n, at) {
			return malformed
		}
	}
	// immediateRange does not know how many variables the loop has.
	if n.Op == api.OpLoopResult && n.Imm >= int64(variableCount(l[n.Kids[0]])) {
		return malformed
	}
	return resultSort(n)
}

// immediateRange returns the least and the greatest Imm of a known operation.
func immediateRange(op int) (int64, int64) {
	switch op {
	case api.OpConst:
		return math.MinInt64, math.MaxInt64
	case api.OpParam:
		return 0, api.MaxParams - 1
	case api.OpLoopVar:
		return 0, loopVarStride*api.MaxLoops - 1
	case api.OpLoad, api.OpStore:
		return 0, api.MaxArrays - 1
	case api.OpGuard:
		return 1, api.TrapUser + 1000000
	case api.OpCall:
		return 0, api.MaxFuncs - 1
	case api.OpLoop:
		return 0, api.MaxLoops - 1
	case api.OpLoopResult:
		return 0, api.MaxVars - 1
	}
	return 0, 0
}

// selectionSort returns the sort of an OpSelect, the only operation whose sort depends on the sorts of its operands.
func selectionSort(condition, first, second sort) sort {
	if condition != value || first != second || first == loop {
		return malformed
	}
	return first
}

// operandSort returns the sort that an operand needs to have, for all operations but OpSelect.
func operandSort(n api.Node, at int) sort {
	switch n.Op {
	case api.OpLoopResult:
		return loop
	case api.OpLoop:
		if at == 0 || at == variableCount(n)+1 {
			return state
		}
	case api.OpLoad, api.OpCallResult, api.OpGuard, api.OpStore, api.OpOutput, api.OpCall:
		if at == 0 {
			return state
		}
	}
	return value
}

// resultSort returns the sort of a well-formed node, for all operations but OpSelect.
func resultSort(n api.Node) sort {
	switch n.Op {
	case api.OpEntry, api.OpGuard, api.OpStore, api.OpOutput, api.OpCall:
		return state
	case api.OpLoop:
		return loop
	case api.OpLoopVar:
		return variableSort(n.Imm % loopVarStride)
	case api.OpLoopResult:
		return variableSort(n.Imm)
	}
	return value
}

// variableSort returns the sort of a loop's variable.
func variableSort(number int64) sort {
	if number == 0 {
		return state
	}
	return value
}
