package ir_test

import (
	"math"
	"slices"
	"testing"

	"fulling/api"
	"fulling/ir"
)

func checkDependencies(t *testing.T, l []api.Node, i int, want ...int) {
	t.Helper()
	if got := ir.Dependencies(l, i); !slices.Equal(got, want) {
		t.Errorf("Dependencies of node %d of %s are %v, not %v", i, show(l), got, want)
	}
}

// 7.3: a node without operands, and nodes that use others directly
func TestDirectDependencies(t *testing.T) {
	l := []api.Node{node(api.OpEntry, 0), node(api.OpParam, 0), node(api.OpConst, 7), node(api.OpSub, 0, 2, 1), node(api.OpNeg, 0, 2), node(api.OpMul, 0, 1, 1)}
	for i, want := range [][]int{{0}, {1}, {2}, {1, 2, 3}, {2, 4}, {1, 5}} {
		checkDependencies(t, l, i, want...)
	}
}

// 7.3: the nodes are in ascending order, each once, whatever the order in which they are used.
func TestIndirectDependencies(t *testing.T) {
	l := []api.Node{
		node(api.OpConst, 1), node(api.OpConst, 2), node(api.OpConst, 3), node(api.OpAdd, 0, 2, 0), node(api.OpConst, 4),
		node(api.OpAdd, 0, 3, 3), node(api.OpNot, 0, 1), node(api.OpSelect, 0, 5, 2, 0), node(api.OpEntry, 0), node(api.OpStore, 1, 8, 7, 6),
		node(api.OpLoad, 0, 9, 4),
	}
	for i, want := range [][]int{{0}, {1}, {2}, {0, 2, 3}, {4}, {0, 2, 3, 5}, {1, 6}, {0, 2, 3, 5, 7}, {8}, {0, 1, 2, 3, 5, 6, 7, 8, 9}, {0, 1, 2, 3, 4, 5, 6, 7, 8, 9, 10}} {
		checkDependencies(t, l, i, want...)
	}
}

// 7.3: all operands of a loop count, and all of a loop counts for its results.
func TestDependenciesOfLoops(t *testing.T) {
	l := []api.Node{
		node(api.OpEntry, 0), node(api.OpConst, 0), node(api.OpLoopVar, 16), node(api.OpLoopVar, 17), node(api.OpConst, 9),
		node(api.OpLt, 0, 3, 4), node(api.OpOutput, 0, 2, 3), node(api.OpConst, 2), node(api.OpAdd, 0, 3, 7), node(api.OpLoopVar, 18),
		node(api.OpLoop, 1, 0, 1, 5, 6, 8), node(api.OpParam, 0), node(api.OpLoopResult, 0, 10), node(api.OpLoopResult, 1, 10), node(api.OpNeg, 0, 13),
		node(api.OpCall, 0, 12, 11, 14), node(api.OpCallResult, 0, 15),
	}
	whole := []int{0, 1, 2, 3, 4, 5, 6, 7, 8, 10}
	checkDependencies(t, l, 6, 2, 3, 6)
	checkDependencies(t, l, 10, whole...)
	checkDependencies(t, l, 12, append(slices.Clone(whole), 12)...)
	checkDependencies(t, l, 13, append(slices.Clone(whole), 13)...)
	checkDependencies(t, l, 14, append(slices.Clone(whole), 13, 14)...)
	checkDependencies(t, l, 16, append(slices.Clone(whole), 11, 12, 13, 14, 15, 16)...)
}

// 7.3: each operand of each operation is a dependency.
func TestDependenciesOnEachOperand(t *testing.T) {
	nodes, _ := wellFormed()
	for _, n := range nodes {
		used := map[int]bool{baseLength: true}
		for _, kid := range n.Kids {
			used[kid] = true
			for _, indirect := range base()[kid].Kids {
				used[indirect] = true
			}
		}
		var want []int
		for i := range baseLength + 1 {
			if used[i] {
				want = append(want, i)
			}
		}
		checkDependencies(t, append(base(), n), baseLength, want...)
	}
}

// 7.3: there is no list for a node that is missing or malformed.
func TestDependenciesOfMalformedNodes(t *testing.T) {
	l := append(base(), node(api.OpAdd, 0, aValue, usesMalformed), node(api.OpAdd, 0, aValue, baseLength+1), node(api.OpAdd, 0, aValue, aState), node(0, 0), node(api.OpConst, 0, aValue))
	for i := range l {
		got := ir.Dependencies(l, i)
		if (got == nil) != (ir.Sort(l, i) == malformed) {
			t.Errorf("Dependencies of node %d of sort %d are %v", i, ir.Sort(l, i), got)
		}
	}
	for _, i := range []int{aMalformed, usesMalformed, baseLength, baseLength + 1, baseLength + 4, -1, len(l), 1 << 32, math.MinInt, math.MaxInt} {
		if got := ir.Dependencies(l, i); got != nil {
			t.Errorf("Dependencies of node %d are %v", i, got)
		}
	}
	if ir.Dependencies(nil, 0) != nil || ir.Dependencies([]api.Node{}, 0) != nil {
		t.Error("there are dependencies in an empty list")
	}
}

// 7.3: malformed nodes that are not used do not matter.
func TestDependenciesAmongMalformedNodes(t *testing.T) {
	l := []api.Node{{}, node(api.OpConst, 0), node(api.OpNeg, 0, 0), node(api.OpNeg, 0, 1), node(api.OpNeg, 0, 9), node(api.OpAdd, 0, 3, 1), {}}
	checkDependencies(t, l, 5, 1, 3, 5)
}
