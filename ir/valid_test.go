package ir_test

import (
	"fmt"
	"math"
	"slices"
	"strings"
	"testing"

	"fulling/api"
	"fulling/ir"
)

func checkValid(t *testing.T, what string, u api.Unit, want bool) {
	t.Helper()
	if got := ir.Valid(u); got != want {
		t.Errorf("%s: Valid returns %v for %s", what, got, show(u))
	}
}

// Indices of the nodes with which graphs of the following tests begin.
const (
	entry = iota
	zero
	firstFree
)

// graph returns a function with the nodes entry, zero and more, which are its state and its value unless the test says otherwise.
func graph(more ...api.Node) api.Graph {
	nodes := append([]api.Node{node(api.OpEntry, 0), node(api.OpConst, 0)}, more...)
	return api.Graph{Name: "f", Nodes: nodes, Value: zero, State: entry}
}

// unit returns a unit with two arrays.
func unit(funcs ...api.Graph) api.Unit {
	return api.Unit{Arrays: []api.Array{{Name: "x", Len: 2}, {Name: "y", Len: 1}}, Funcs: funcs}
}

func named(name string, params int) api.Graph {
	g := graph()
	g.Name, g.Params = name, params
	return g
}

// 7.4
func TestEmptyUnits(t *testing.T) {
	checkValid(t, "nothing", api.Unit{}, true)
	checkValid(t, "arrays only", unit(), true)
	checkValid(t, "functions only", api.Unit{Funcs: []api.Graph{graph()}}, true)
	checkValid(t, "no nodes", unit(api.Graph{Name: "f"}), false)
}

// 7.4
func TestArrays(t *testing.T) {
	for n := range 9 {
		u := api.Unit{Funcs: []api.Graph{graph()}}
		for i := range n {
			u.Arrays = append(u.Arrays, api.Array{Name: fmt.Sprint("x", i), Len: 1})
		}
		checkValid(t, fmt.Sprint(n, " arrays"), u, n <= api.MaxArrays)
	}
	for _, n := range []int{1, 2, 15, 16} {
		checkValid(t, fmt.Sprint("length ", n), api.Unit{Arrays: []api.Array{{Name: "x", Len: n}}}, true)
	}
	for _, n := range []int{0, -1, 17, 1<<32 + 1, math.MinInt, math.MaxInt} {
		checkValid(t, fmt.Sprint("length ", n), api.Unit{Arrays: []api.Array{{Name: "x", Len: n}}}, false)
		checkValid(t, fmt.Sprint("last length ", n), api.Unit{Arrays: []api.Array{{Name: "x", Len: 1}, {Name: "y", Len: 2}, {Name: "z", Len: n}}}, false)
	}
}

// 7.4
func TestFunctions(t *testing.T) {
	for n := range 12 {
		var u api.Unit
		for i := range n {
			u.Funcs = append(u.Funcs, named(fmt.Sprint("f", i), 0))
		}
		checkValid(t, fmt.Sprint(n, " functions"), u, n <= api.MaxFuncs)
	}
	for n := -2; n < 12; n++ {
		checkValid(t, fmt.Sprint(n, " parameters"), unit(named("f", n)), n >= 0 && n <= api.MaxParams)
	}
	for _, n := range []int{1 << 32, math.MinInt, math.MaxInt} {
		checkValid(t, fmt.Sprint(n, " parameters"), unit(named("f", n)), false)
	}
}

// 7.4: names that checker accepts
func TestNames(t *testing.T) {
	for name, want := range map[string]bool{
		"a": true, "A": true, "_": true, "_1": true, "x9": true, "f_g": true, strings.Repeat("n", 16): true, "If": true, "arrays": true, "v": true,
		"": false, "1": false, "1a": false, "a b": false, " a": false, "a ": false, "a-b": false, "é": false, "a\x00": false, "a\n": false, "#": false, "a#": false, "a 1; array b": false,
		strings.Repeat("n", 17): false, strings.Repeat("n", 100000): false,
		"func": false, "var": false, "array": false, "if": false, "else": false, "while": false, "return": false, "trap": false, "out": false,
	} {
		checkValid(t, "array "+show(name), api.Unit{Arrays: []api.Array{{Name: "x", Len: 1}, {Name: name, Len: 1}}}, want)
		checkValid(t, "function "+show(name), unit(named("g", 0), named(name, 0)), want)
	}
}

// 7.4: names are distinct among arrays and among functions.
func TestDistinctNames(t *testing.T) {
	names := []string{"a", "b", "c", "d"}
	for i := range names {
		for j := range names {
			changed := slices.Clone(names)
			changed[j] = names[i]
			var u, v api.Unit
			for _, name := range changed {
				u.Arrays = append(u.Arrays, api.Array{Name: name, Len: len(u.Arrays) + 1})
				v.Funcs = append(v.Funcs, named(name, len(v.Funcs)))
			}
			checkValid(t, "arrays", u, i == j)
			checkValid(t, "functions", v, i == j)
		}
	}
	checkValid(t, "a function with the name of an array", unit(named("x", 0), named("X", 0), named("y", 0)), true)
}

// chain returns a graph of n nodes.
func chain(n int) api.Graph {
	g := graph()
	for len(g.Nodes) < n {
		g.Nodes = append(g.Nodes, node(api.OpNeg, 0, len(g.Nodes)-1))
	}
	g.Value = n - 1
	return g
}

// 7.4
func TestNumberOfNodes(t *testing.T) {
	for _, n := range []int{2, 3, 1000, 1999, 2000, 2001, 2002, 5000} {
		checkValid(t, fmt.Sprint(n, " nodes"), unit(chain(n)), n <= api.MaxNodes)
	}
}

// 7.4: no node is malformed, used or not.
func TestMalformedNodes(t *testing.T) {
	for _, bad := range []api.Node{
		{}, node(-1, 0), node(api.OpLoop+1, 0), node(api.OpParam, -1), node(api.OpNeg, 0), node(api.OpNeg, 0, entry), node(api.OpNeg, 0, firstFree), node(api.OpNeg, 0, 3), node(api.OpNeg, 0, -1),
		node(api.OpNeg, 0, math.MinInt), node(api.OpNeg, 0, math.MaxInt), node(api.OpNeg, 1, zero), node(api.OpAdd, 0, zero), node(api.OpGuard, 0, entry, zero), node(api.OpLoopResult, 0, entry), node(api.OpLoop, 16, entry, zero, entry),
		node(api.OpStore, 1, entry, zero), node(api.OpLoad, -1, entry, zero), node(api.OpStore, -1, entry, zero, zero), node(api.OpCall, -1, entry), node(api.OpLoopVar, -1), node(api.OpLoopVar, 256), node(api.OpLoop, -1, entry, zero, entry),
		node(api.OpCall, math.MaxInt64, entry), node(api.OpLoad, math.MinInt64, entry, zero), node(api.OpLoop, math.MinInt64, entry, zero, entry), node(api.OpLoopVar, math.MinInt64),
	} {
		checkValid(t, "a malformed node", unit(graph(bad)), false)
		checkValid(t, "a malformed node and its user", unit(graph(bad, node(api.OpNot, 0, firstFree))), false)
		checkValid(t, "a malformed node before others", unit(graph(bad, node(api.OpNot, 0, zero))), false)
		checkValid(t, "a malformed node in the second function", unit(named("g", 0), graph(bad)), false)
	}
	first := graph()
	first.Nodes = append([]api.Node{{}}, first.Nodes...)
	first.Value, first.State = zero+1, entry+1
	checkValid(t, "a malformed first node", unit(first), false)
}

// 7.4: nodes that are the same in Op, Imm and Kids
func TestIdenticalNodes(t *testing.T) {
	nodes := []api.Node{
		node(api.OpEntry, 0), node(api.OpConst, 0), node(api.OpConst, 1), node(api.OpConst, -1), node(api.OpConst, math.MinInt64), node(api.OpConst, math.MaxInt64), node(api.OpParam, 0), node(api.OpParam, 1),
		node(api.OpLoopVar, 0), node(api.OpLoopVar, 1), node(api.OpAdd, 0, 1, 2), node(api.OpAdd, 0, 2, 1), node(api.OpAdd, 0, 1, 1), node(api.OpSub, 0, 1, 2), node(api.OpNeg, 0, 1), node(api.OpNot, 0, 1), node(api.OpNeg, 0, 2),
		node(api.OpSelect, 0, 1, 0, 0), node(api.OpSelect, 0, 1, 1, 1), node(api.OpSelect, 0, 1, 1, 2), node(api.OpSelect, 0, 1, 2, 1), node(api.OpSelect, 0, 2, 1, 1), node(api.OpLoad, 0, 0, 1), node(api.OpLoad, 1, 0, 1), node(api.OpLoad, 1, 0, 2),
		node(api.OpGuard, 1, 0, 1), node(api.OpGuard, 2, 0, 1), node(api.OpStore, 0, 0, 1, 2), node(api.OpStore, 0, 0, 2, 1), node(api.OpOutput, 0, 0, 1), node(api.OpCall, 0, 0, 1, 1), node(api.OpCall, 0, 0, 1, 2), node(api.OpCall, 1, 0),
		node(api.OpCallResult, 0, 30), node(api.OpLoop, 1, 0, 1, 0), node(api.OpLoopResult, 0, 34),
	}
	unitOf := func(l []api.Node) api.Unit {
		return unit(api.Graph{Name: "f", Params: 2, Nodes: l, Value: 1, State: 0}, named("g", 0))
	}
	checkValid(t, "different nodes", unitOf(nodes), true)
	for i, n := range nodes {
		if len(n.Kids) == 0 {
			n.Kids = []int{}
		}
		checkValid(t, fmt.Sprint("node ", i, " at the end"), unitOf(append(slices.Clone(nodes), n)), false)
		if len(n.Kids) == 0 {
			checkValid(t, fmt.Sprint("node ", i, " in place of node 7"), unitOf(slices.Concat(nodes[:7], []api.Node{n}, nodes[8:])), i == 7)
		}
	}
	checkValid(t, "the same nodes in two functions", unit(graph(), named("g", 0)), true)
}

// 7.4
func TestParameters(t *testing.T) {
	for params := range api.MaxParams + 1 {
		for imm := range int64(api.MaxParams) {
			g := graph(node(api.OpParam, imm))
			g.Params = params
			checkValid(t, fmt.Sprint("parameter ", imm, " of ", params), unit(g), imm < int64(params))
			g.Value = firstFree
			checkValid(t, fmt.Sprint("value of parameter ", imm, " of ", params), unit(named("g", 6), g), imm < int64(params))
		}
	}
}

// 7.4
func TestReferencesToArrays(t *testing.T) {
	names := []string{"x", "y", "z", "u"}
	for n := range len(names) + 1 {
		for imm := range int64(len(names)) {
			u := api.Unit{Funcs: []api.Graph{graph()}}
			for _, name := range names[:n] {
				u.Arrays = append(u.Arrays, api.Array{Name: name, Len: 1})
			}
			for _, last := range []api.Node{node(api.OpLoad, imm, entry, zero), node(api.OpStore, imm, entry, zero, zero)} {
				u.Funcs[0] = graph(last)
				checkValid(t, fmt.Sprint("array ", imm, " of ", n), u, imm < int64(n))
			}
		}
	}
}

// 7.4: calls have as many arguments as the called function has parameters, whichever function that is.
func TestCalls(t *testing.T) {
	for functions := 1; functions <= 3; functions++ {
		for caller := range functions {
			for imm := range int64(api.MaxFuncs) {
				for arguments := range api.MaxParams + 1 {
					u := unit(named("f", 2), named("g", 0), named("h", 6))
					u.Funcs = u.Funcs[:functions]
					call := node(api.OpCall, imm, append([]int{entry}, slices.Repeat([]int{zero}, arguments)...)...)
					u.Funcs[caller].Nodes = append(u.Funcs[caller].Nodes, call)
					want := imm < int64(functions) && arguments == u.Funcs[imm].Params
					checkValid(t, fmt.Sprint("a call of function ", imm, " of ", functions, " with ", arguments, " arguments"), u, want)
				}
			}
		}
	}
}

// resulting sets the nodes of a graph's value and state.
func resulting(g api.Graph, value, state int) api.Graph {
	g.Value, g.State = value, state
	return g
}

// 7.4
func TestValueAndState(t *testing.T) {
	more := []api.Node{node(api.OpOutput, 0, entry, zero), node(api.OpNeg, 0, zero), node(api.OpLoop, 0, entry, zero, entry), node(api.OpLoopResult, 0, 4), node(api.OpConst, 1), node(api.OpSelect, 0, zero, entry, 2), node(api.OpSelect, 0, zero, 3, 6)}
	sorts := []int{state, value, state, value, loop, state, value, state, value}
	for i, s := range sorts {
		checkValid(t, fmt.Sprint("value ", i), unit(resulting(graph(more...), i, entry)), s == value)
		checkValid(t, fmt.Sprint("state ", i), unit(resulting(graph(more...), zero, i)), s == state)
	}
	for _, i := range []int{-1, len(sorts), len(sorts) + 1, 1 << 32, 1<<32 + 1, -1 << 32, math.MinInt, math.MaxInt} {
		checkValid(t, fmt.Sprint("value ", i), unit(resulting(graph(more...), i, entry)), false)
		checkValid(t, fmt.Sprint("state ", i), unit(resulting(graph(more...), zero, i)), false)
	}
}

// 7.4: every function of a unit is examined.
func TestEachFunction(t *testing.T) {
	for n := 1; n <= api.MaxFuncs; n++ {
		for bad := range n {
			var u api.Unit
			for i := range n {
				u.Funcs = append(u.Funcs, named(fmt.Sprint("f", i), 1))
			}
			checkValid(t, "all functions", u, true)
			u.Funcs[bad].Value = entry
			checkValid(t, fmt.Sprint("function ", bad), u, false)
		}
	}
}
