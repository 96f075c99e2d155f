package ir_test

import (
	"fmt"
	"math"
	"slices"
	"testing"

	"fulling/api"
	"fulling/ir"
)

// Sorts of nodes.
const (
	malformed = iota
	value
	state
	loop
)

func node(op int, imm int64, kids ...int) api.Node {
	return api.Node{Op: op, Imm: imm, Kids: kids}
}

// Indices of the nodes in base.
const (
	aState = iota
	aValue
	otherState
	otherValue
	aLoop // of two variables
	aMalformed
	usesMalformed
	baseLength
)

// base has nodes of each sort, and malformed ones.
func base() []api.Node {
	return []api.Node{
		node(api.OpEntry, 0), node(api.OpConst, 5), node(api.OpLoopVar, 32), node(api.OpLoopVar, 33),
		node(api.OpLoop, 2, aState, aValue, otherValue, otherState, otherValue),
		node(api.OpNeg, 0, aState), node(api.OpNot, 0, aMalformed),
	}
}

// ofSort returns the index of a node in base.
func ofSort(s int) int {
	return []int{aMalformed, aValue, aState, aLoop}[s]
}

// checkSort examines a node after those of base.
func checkSort(t *testing.T, want int, n api.Node) {
	t.Helper()
	if got := ir.Sort(append(base(), n), baseLength); got != want {
		t.Errorf("the sort of %v is %d, not %d", n, got, want)
	}
}

// loopNode returns an OpLoop of k variables.
func loopNode(imm int64, k int) api.Node {
	values := slices.Repeat([]int{aValue}, max(k-1, 0))
	return node(api.OpLoop, imm, slices.Concat([]int{aState}, values, []int{otherValue, otherState}, values)...)
}

// wellFormed returns a node of each operation, and for OpSelect, OpCall, OpLoop, OpLoopVar and OpLoopResult some more, with their sorts.
func wellFormed() (nodes []api.Node, sorts []int) {
	add := func(s, op int, imm int64, kids ...int) {
		nodes, sorts = append(nodes, node(op, imm, kids...)), append(sorts, s)
	}
	add(value, api.OpConst, 0)
	add(value, api.OpParam, 0)
	add(state, api.OpLoopVar, 0)
	add(value, api.OpLoopVar, 1)
	for op := api.OpAdd; op <= api.OpLtu; op++ {
		add(value, op, 0, aValue, otherValue)
	}
	add(value, api.OpNeg, 0, aValue)
	add(value, api.OpNot, 0, aValue)
	add(value, api.OpSelect, 0, aValue, aValue, otherValue)
	add(state, api.OpSelect, 0, aValue, aState, otherState)
	add(value, api.OpLoad, 0, aState, aValue)
	add(value, api.OpCallResult, 0, aState)
	add(state, api.OpLoopResult, 0, aLoop)
	add(value, api.OpLoopResult, 1, aLoop)
	add(state, api.OpEntry, 0)
	add(state, api.OpGuard, 1, aState, aValue)
	add(state, api.OpStore, 0, aState, aValue, otherValue)
	add(state, api.OpOutput, 0, aState, aValue)
	for n := range api.MaxParams + 1 {
		add(state, api.OpCall, 0, append([]int{aState}, slices.Repeat([]int{aValue}, n)...)...)
	}
	for k := 1; k <= api.MaxVars; k++ {
		add(loop, api.OpLoop, 0, loopNode(0, k).Kids...)
	}
	return nodes, sorts
}

// 7.2
func TestSortsOfWellFormedNodes(t *testing.T) {
	seen := map[int]bool{}
	nodes, sorts := wellFormed()
	for i, n := range nodes {
		checkSort(t, sorts[i], n)
		seen[n.Op] = true
	}
	if len(seen) != api.OpLoop {
		t.Errorf("%d operations are tested", len(seen))
	}
}

// 7.2: the example of the chapter
func TestExample(t *testing.T) {
	l := []api.Node{node(api.OpEntry, 0), node(api.OpConst, 0), node(api.OpGuard, 1, 0, 1)}
	if got := ir.Sort(l, 2); got != state {
		t.Errorf("Sort returns %d", got)
	}
}

// 7.2
func TestMissingNodes(t *testing.T) {
	for _, l := range [][]api.Node{nil, {}, base()} {
		for _, i := range []int{-1, -2, len(l), len(l) + 1, 1 << 32, -1 << 32, math.MinInt, math.MaxInt} {
			if got := ir.Sort(l, i); got != malformed {
				t.Errorf("Sort of node %d of %d is %d", i, len(l), got)
			}
		}
	}
}

// 7.2
func TestUnknownOperations(t *testing.T) {
	for _, op := range []int{0, -1, -2, api.OpLoop + 1, 1 << 32, 1<<32 + api.OpConst, 256 + api.OpConst, math.MinInt, math.MaxInt} {
		checkSort(t, malformed, node(op, 0))
		checkSort(t, malformed, node(op, 0, aValue))
		checkSort(t, malformed, node(op, 0, aValue, otherValue))
	}
}

// checkImmediates examines the edges of a range of immediate operands.
func checkImmediates(t *testing.T, n api.Node, sort int, least, most int64) {
	t.Helper()
	immediates := []int64{
		least, most, least - 1, most + 1, least + 1, most - 1, 0, 1, -1, 2, 15, 16, 17, 1 << 32, 1<<32 + 1, -1 << 32, 256, 1 << 16,
		math.MinInt64, math.MinInt64 + 1, math.MaxInt64, math.MaxInt64 - 1,
	}
	for _, imm := range immediates {
		n.Imm = imm
		want := sort
		if imm < least || imm > most {
			want = malformed
		}
		checkSort(t, want, n)
	}
}

// 7.2
func TestImmediates(t *testing.T) {
	nodes, sorts := wellFormed()
	for i, n := range nodes {
		switch n.Op {
		case api.OpLoopVar, api.OpLoopResult: // below
		case api.OpConst:
			checkImmediates(t, n, sorts[i], math.MinInt64, math.MaxInt64)
		case api.OpParam:
			checkImmediates(t, n, sorts[i], 0, 5)
		case api.OpLoad, api.OpStore:
			checkImmediates(t, n, sorts[i], 0, 3)
		case api.OpGuard:
			checkImmediates(t, n, sorts[i], 1, 1000016)
		case api.OpCall:
			checkImmediates(t, n, sorts[i], 0, 7)
		case api.OpLoop:
			checkImmediates(t, n, sorts[i], 0, 15)
		default:
			checkImmediates(t, n, sorts[i], 0, 0)
		}
	}
}

// 7.2: the sort of a loop's variable depends on its number.
func TestLoopVariables(t *testing.T) {
	for imm := range int64(256) {
		want := value
		if imm%16 == 0 {
			want = state
		}
		checkSort(t, want, node(api.OpLoopVar, imm))
	}
	for _, imm := range []int64{-1, -16, -15, 256, 257, 272, 1 << 32, math.MinInt64, math.MinInt64 + 1, math.MaxInt64} {
		checkSort(t, malformed, node(api.OpLoopVar, imm))
	}
}

// 7.2: a result has the number of one of the loop's variables.
func TestLoopResults(t *testing.T) {
	for k := 1; k <= api.MaxVars; k++ {
		for imm := int64(-17); imm <= 33; imm++ {
			want := value
			switch {
			case imm == 0:
				want = state
			case imm < 0 || imm >= int64(k):
				want = malformed
			}
			l := append(base(), loopNode(0, k), node(api.OpLoopResult, imm, baseLength))
			if got := ir.Sort(l, baseLength+1); got != want {
				t.Errorf("result %d of a loop of %d variables has sort %d", imm, k, got)
			}
		}
	}
	for _, imm := range []int64{2, 16, 1 << 32, 1<<32 + 1, math.MinInt64, math.MaxInt64} {
		checkSort(t, malformed, node(api.OpLoopResult, imm, aLoop))
	}
}

// operandCounts returns the numbers of operands that an operation may have.
func operandCounts(op int) []int {
	var counts []int
	nodes, _ := wellFormed()
	for _, n := range nodes {
		if n.Op == op {
			counts = append(counts, len(n.Kids))
		}
	}
	return counts
}

// 7.2: operands are missing at the end, or there are further ones of each sort.
func TestNumbersOfOperands(t *testing.T) {
	nodes, sorts := wellFormed()
	for i, n := range nodes {
		check := func(kids []int) {
			t.Helper()
			changed := n
			changed.Kids = kids
			if slices.Contains(operandCounts(n.Op), len(kids)) {
				return
			}
			checkSort(t, malformed, changed)
		}
		checkSort(t, sorts[i], n)
		for count := range n.Kids {
			check(n.Kids[:count])
			check(n.Kids[count+1:])
		}
		for s := value; s <= loop; s++ {
			for more := 1; more < 40; more++ {
				check(append(slices.Clone(n.Kids), slices.Repeat([]int{ofSort(s)}, more)...))
			}
		}
	}
}

// 7.2: a call has up to MaxParams arguments.
func TestOperandsOfCalls(t *testing.T) {
	checkSort(t, malformed, node(api.OpCall, 0))
	for n := range 40 {
		want := state
		if n > api.MaxParams {
			want = malformed
		}
		checkSort(t, want, node(api.OpCall, 0, append([]int{aState}, slices.Repeat([]int{aValue}, n)...)...))
	}
}

// 7.2: a loop has 1 to MaxVars variables, and an odd number of operands.
func TestOperandsOfLoops(t *testing.T) {
	for k := 1; k < 40; k++ {
		n := loopNode(0, k)
		want := loop
		if k > api.MaxVars {
			want = malformed
		}
		checkSort(t, want, n)
		for s := value; s <= loop; s++ {
			checkSort(t, malformed, node(api.OpLoop, 0, append(slices.Clone(n.Kids), ofSort(s))...))
		}
		checkSort(t, malformed, node(api.OpLoop, 0, n.Kids[:len(n.Kids)-1]...))
	}
	for s := value; s <= loop; s++ {
		checkSort(t, malformed, node(api.OpLoop, 0, ofSort(s)))
	}
	checkSort(t, malformed, node(api.OpLoop, 0))
}

// 7.2: each operand in turn is one of another sort.
func TestSortsOfOperands(t *testing.T) {
	nodes, sorts := wellFormed()
	for i, n := range nodes {
		for at, kid := range n.Kids {
			right := ir.Sort(base(), kid)
			for s := malformed; s <= loop; s++ {
				changed := n
				changed.Kids = slices.Clone(n.Kids)
				changed.Kids[at] = ofSort(s)
				want := malformed
				if s == right {
					want = sorts[i]
				}
				checkSort(t, want, changed)
			}
		}
	}
}

// 7.2
func TestSelections(t *testing.T) {
	for condition := malformed; condition <= loop; condition++ {
		for first := malformed; first <= loop; first++ {
			for second := malformed; second <= loop; second++ {
				want := malformed
				if condition == value && first == second && first != loop {
					want = first
				}
				checkSort(t, want, node(api.OpSelect, 0, ofSort(condition), ofSort(first), ofSort(second)))
			}
		}
	}
	l := append(base(), node(api.OpSelect, 0, aValue, otherState, aState), node(api.OpSelect, 0, aValue, baseLength, aState), node(api.OpSelect, 0, aValue, baseLength+1, aValue))
	for i, want := range []int{state, state, malformed} {
		if got := ir.Sort(l, baseLength+i); got != want {
			t.Errorf("selection %d has sort %d", i, got)
		}
	}
}

// 7.2: each operand in turn is no earlier node, or one that is malformed or uses such a node.
func TestOperandsAreEarlierWellFormedNodes(t *testing.T) {
	nodes, _ := wellFormed()
	for _, n := range nodes {
		for at, kid := range n.Kids {
			for _, other := range []int{baseLength, baseLength + 1, baseLength + 1 + kid, baseLength + 100, -1, -kid - 1, kid + 1<<32, kid - 1<<32, math.MinInt, math.MaxInt, aMalformed, usesMalformed} {
				changed := n
				changed.Kids = slices.Clone(n.Kids)
				changed.Kids[at] = other
				l := slices.Concat(base(), []api.Node{changed}, base())
				if got := ir.Sort(l, baseLength); got != malformed {
					t.Errorf("the sort of %v is %d", changed, got)
				}
			}
		}
	}
}

// 7.2: whatever a node uses has to be well-formed, however far away.
func TestMalformedNodesFarAway(t *testing.T) {
	const entry, bad, constant = 0, 1, 2
	for _, n := range []api.Node{{}, node(api.OpParam, 6), node(api.OpAdd, 0, entry), node(api.OpNeg, 0, entry), node(api.OpNeg, 0, bad), node(api.OpNot, 0, -1), node(api.OpConst, 0, entry)} {
		for start, want := range map[int]int{bad: malformed, constant: value} {
			l := []api.Node{node(api.OpEntry, 0), n, node(api.OpConst, 1), node(api.OpNeg, 0, start)}
			for range 50 {
				l = append(l, node(api.OpSub, 0, constant, len(l)-1))
			}
			for i := 3; i < len(l); i++ {
				if got := ir.Sort(l, i); got != want {
					t.Errorf("with %v, node %d has sort %d, not %d", n, i, got, want)
				}
			}
		}
	}
}

// 7.2: a node does not become malformed by nodes that it does not use.
func TestNodesAreSortedAlone(t *testing.T) {
	bad := []api.Node{{}, node(api.OpLoop+1, 0), node(api.OpAdd, 0), node(api.OpNeg, 0, 5), node(api.OpGuard, 0, 0, 0), node(api.OpConst, 0, 0)}
	l := slices.Concat(bad, []api.Node{node(api.OpConst, 1)}, bad, []api.Node{node(api.OpNeg, 0, len(bad))}, bad)
	for i := range l {
		want := malformed
		if i == len(bad) || i == 2*len(bad)+1 {
			want = value
		}
		if got := ir.Sort(l, i); got != want {
			t.Errorf("node %d has sort %d", i, got)
		}
	}
}

// 7.2: identical nodes are well-formed, and so are nodes of loops and parameters that do not exist.
func TestSortsInInvalidGraphs(t *testing.T) {
	l := []api.Node{
		node(api.OpEntry, 0), node(api.OpEntry, 0), node(api.OpConst, 0), node(api.OpConst, 0), node(api.OpParam, 5), node(api.OpLoopVar, 255),
		node(api.OpLoop, 3, 0, 2, 1), node(api.OpLoop, 3, 1, 3, 0), node(api.OpCall, 7, 0, 4, 5), node(api.OpStore, 3, 8, 4, 5),
	}
	for i, want := range []int{state, state, value, value, value, value, loop, loop, state, state} {
		if got := ir.Sort(l, i); got != want {
			t.Errorf("node %d has sort %d", i, got)
		}
	}
}

// show shortens a value for a message.
func show(what any) string {
	s := fmt.Sprint(what)
	if len(s) > 1000 {
		return s[:1000] + ".."
	}
	return s
}
