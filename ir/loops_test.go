package ir_test

import (
	"fmt"
	"slices"
	"testing"

	"fulling/api"
)

// counting returns a graph in which a loop adds 1 to its variable 1; node 7 is its state at the end and node 8 its value.
func counting(number int64) api.Graph {
	return resulting(graph(
		node(api.OpConst, 1), node(api.OpLoopVar, 16*number), node(api.OpLoopVar, 16*number+1), node(api.OpAdd, 0, 4, 2),
		node(api.OpLoop, number, entry, zero, 5, 3, 5), node(api.OpLoopResult, 0, 6), node(api.OpLoopResult, 1, 6),
	), 8, 7)
}

// add appends nodes to a graph.
func add(g api.Graph, more ...api.Node) api.Graph {
	g.Nodes = slices.Concat(g.Nodes, more)
	return g
}

// 7.4
func TestLoopNumbers(t *testing.T) {
	for number := range int64(api.MaxLoops) {
		g := counting(number)
		checkValid(t, "a loop", unit(g), true)
		checkValid(t, "the same number in two functions", unit(g, resulting(api.Graph{Name: "g", Nodes: g.Nodes}, 8, 7)), true)
		for other := range int64(api.MaxLoops) {
			second := node(api.OpLoop, other, 7, zero, entry)
			checkValid(t, fmt.Sprint("loops ", number, " and ", other), unit(add(g, second)), other != number)
			third := node(api.OpLoop, other, 7, zero, 7)
			checkValid(t, fmt.Sprint("loops ", other, " twice"), unit(add(graph(), node(api.OpLoop, other, entry, zero, entry), node(api.OpLoop, number, entry, zero, entry))), other != number)
			checkValid(t, fmt.Sprint("loops ", number, " and ", other, " of different operands"), unit(add(g, third)), other != number)
		}
	}
	all := graph()
	for number := range int64(api.MaxLoops) {
		all = add(all, node(api.OpLoop, number, entry, zero, entry))
	}
	checkValid(t, "all loops", unit(all), true)
	checkValid(t, "loop 0 again at the end", unit(add(all, node(api.OpConst, 1), node(api.OpLoop, 0, entry, 18, entry))), false)
}

// 7.4: variables of a loop that exists, whether their nodes are before it or after it
func TestNumbersOfLoopVariables(t *testing.T) {
	for k := 1; k <= api.MaxVars; k++ {
		for number := range int64(api.MaxLoops) {
			for imm := range int64(16 * api.MaxLoops) {
				variable := node(api.OpLoopVar, imm)
				n := loopNode(number, k)
				for i := range n.Kids {
					n.Kids[i] = zero
				}
				n.Kids[0], n.Kids[k+1] = entry, entry
				want := imm/16 != number || imm%16 < int64(k)
				what := fmt.Sprint("variable ", imm, " and loop ", number, " of ", k, " variables")
				checkValid(t, what, unit(graph(variable, n)), want)
				checkValid(t, what+", after it", unit(graph(n, variable)), want)
			}
		}
	}
}

// 7.4: variables of loops that do not exist are valid if nothing that counts depends on them.
func TestVariablesOfNoLoop(t *testing.T) {
	for imm := range int64(16 * api.MaxLoops) {
		g := graph(node(api.OpLoopVar, imm))
		checkValid(t, "unused", unit(g), true)
		checkValid(t, "value", unit(resulting(g, firstFree, entry)), false)
		checkValid(t, "state", unit(resulting(g, zero, firstFree)), false)
		checkValid(t, "used", unit(add(g, node(api.OpLoop, (imm/16+1)%16, entry, zero, entry))), true)
	}
	u := unit(graph(node(api.OpLoopVar, 17)), resulting(api.Graph{Name: "g", Nodes: counting(1).Nodes}, 8, 7))
	checkValid(t, "a loop in another function", u, true)
	u.Funcs[0].Value = firstFree
	checkValid(t, "value of a loop in another function", u, false)
}

// 7.4: a result does not depend on its loop, but its variables do.
func TestDependenceOnALoop(t *testing.T) {
	for number := range int64(api.MaxLoops) {
		g := counting(number)
		checkValid(t, "results", unit(g), true)
		for i, want := range []bool{false, true, true, false, false, false, false, false, true} {
			checkValid(t, fmt.Sprint("value ", i), unit(resulting(g, i, 7)), want)
		}
		for i, want := range []bool{true, false, false, false, false, false, false, true, false} {
			checkValid(t, fmt.Sprint("state ", i), unit(resulting(g, 8, i)), want)
		}
	}
}

// 7.4: a node of each operation depends on what each of its operands depends on.
func TestDependenceThroughOperands(t *testing.T) {
	nodes, sorts := wellFormed()
	for i, n := range nodes {
		for at := range n.Kids {
			if n.Op == api.OpLoop || n.Op == api.OpLoopResult {
				continue // below
			}
			for _, number := range []int64{1, 7, 15} {
				checkDependence(t, n, at, number, sorts[i])
			}
		}
	}
}

// checkDependence takes a variable of loop number for one operand of n, and nodes that depend on no loop for the others.
func checkDependence(t *testing.T, n api.Node, at int, number int64, sort int) {
	t.Helper()
	const variableState, variableValue = firstFree, firstFree + 1
	before := graph(node(api.OpLoopVar, 16*number), node(api.OpLoopVar, 16*number+1))
	before.Name, before.Params = "f", max(0, len(n.Kids)-1)
	independent, dependent := []int{malformed, zero, entry}, []int{malformed, variableValue, variableState}
	for _, depends := range []bool{false, true} {
		changed := n
		changed.Kids = nil
		for i, kid := range n.Kids {
			s := value
			if kid == aState || kid == otherState {
				s = state
			}
			if depends && i == at {
				changed.Kids = append(changed.Kids, dependent[s])
				continue
			}
			changed.Kids = append(changed.Kids, independent[s])
		}
		g := add(before, changed)
		checkValid(t, "unused", unit(g), true)
		last := len(g.Nodes) - 1
		if sort == value {
			g.Value = last
		} else {
			g.State = last
		}
		checkValid(t, fmt.Sprintf("%v, whose operand %d depends on loop %d", changed, at, number), unit(g), !depends)
	}
}

// 7.4: of loop 3, the results depend on the loops of the initial values, and on others than loop 3 of the condition and of the next values.
func TestDependenceThroughLoops(t *testing.T) {
	const number, k = 3, 3
	for other := range int64(api.MaxLoops) {
		variables := []api.Node{node(api.OpLoopVar, 16*other), node(api.OpLoopVar, 16*other+1)}
		const variableState, variableValue = firstFree, firstFree + 1
		for at := range 2*k + 1 {
			n := node(api.OpLoop, number, entry, zero, zero, zero, entry, zero, zero)
			if at == 0 || at == k+1 {
				n.Kids[at] = variableState
			} else {
				n.Kids[at] = variableValue
			}
			g := add(graph(variables...), n, node(api.OpLoopResult, 0, 4), node(api.OpLoopResult, 1, 4), node(api.OpLoopResult, 2, 4))
			want := other == number && at >= k
			what := fmt.Sprintf("%v with a variable of loop %d", n, other)
			checkValid(t, what+", unused", unit(g), true)
			checkValid(t, what+", state", unit(resulting(g, zero, 5)), want)
			checkValid(t, what+", value 1", unit(resulting(g, 6, entry)), want)
			checkValid(t, what+", value 2", unit(resulting(g, 7, entry)), want)
		}
	}
}

// nested returns a graph with loop 1 in loop 0. Nodes 9 and 10 are the results of the inner loop, and nodes 12 and 13 those of the outer one.
func nested() api.Graph {
	return resulting(graph(
		node(api.OpLoopVar, 0), node(api.OpLoopVar, 1), node(api.OpLoopVar, 16), node(api.OpLoopVar, 17),
		node(api.OpSub, 0, 5, 3), node(api.OpOutput, 0, 4, 6), node(api.OpLoop, 1, 2, 3, 6, 7, 6), node(api.OpLoopResult, 0, 8), node(api.OpLoopResult, 1, 8),
		node(api.OpLoop, 0, entry, zero, 10, 9, 10), node(api.OpLoopResult, 0, 11), node(api.OpLoopResult, 1, 11),
	), 13, 12)
}

// 7.4
func TestNestedLoops(t *testing.T) {
	g := nested()
	checkValid(t, "nested loops", unit(g), true)
	checkValid(t, "value of the inner loop", unit(resulting(g, 10, 12)), false)
	checkValid(t, "state of the inner loop", unit(resulting(g, 13, 9)), false)
	checkValid(t, "value inside the inner loop", unit(resulting(g, 6, 12)), false)
	checkValid(t, "value of the initial value", unit(resulting(g, 3, 12)), false)
	g.Nodes[11].Kids = []int{entry, 5, 10, 9, 10}
	checkValid(t, "a variable of the inner loop before the outer one", unit(g), false)
	g.Nodes[11].Kids = []int{entry, zero, 6, 9, 10}
	checkValid(t, "a variable of the inner loop after it", unit(g), false)
	g.Nodes[11].Kids = []int{entry, zero, 10, 9, 3}
	checkValid(t, "a variable of the outer loop in it", unit(g), true)
}

// 7.4: the second of two loops begins with the results of the first.
func TestLoopsInSequence(t *testing.T) {
	g := add(counting(0), node(api.OpLoopVar, 16), node(api.OpLoopVar, 17), node(api.OpLoop, 1, 7, 8, 10, 9, 8), node(api.OpLoopResult, 0, 11), node(api.OpLoopResult, 1, 11))
	checkValid(t, "loops in sequence", unit(resulting(g, 13, 12)), true)
	g.Nodes[11].Kids = []int{7, 4, 10, 9, 8}
	checkValid(t, "the second loop begins with a variable of the first", unit(resulting(g, 13, 12)), false)
	g.Nodes[11].Kids = []int{7, 8, 4, 9, 8}
	checkValid(t, "the condition of the second loop is a variable of the first", unit(resulting(g, 13, 12)), false)
	g.Nodes[11].Kids = []int{7, 8, 10, 3, 8}
	checkValid(t, "the next state of the second loop is a variable of the first", unit(resulting(g, 13, 12)), false)
	g.Nodes[11].Kids = []int{7, 10, 10, 9, 8}
	checkValid(t, "the second loop begins with a variable of its own", unit(resulting(g, 13, 12)), false)
	checkValid(t, "the first loop only", unit(resulting(g, 8, 7)), true)
}

// 7.4: dependence on several loops, of which one ends
func TestSeveralLoops(t *testing.T) {
	g := graph()
	for number := range int64(api.MaxLoops) {
		g = add(g, node(api.OpLoopVar, 16*number+1))
	}
	sum := zero
	for i := firstFree; i < firstFree+api.MaxLoops; i++ {
		g = add(g, node(api.OpAdd, 0, sum, i))
		sum = len(g.Nodes) - 1
	}
	for number := range int64(api.MaxLoops) {
		checkValid(t, fmt.Sprint(number, " loops have ended"), unit(resulting(g, sum, entry)), false)
		g = add(g, node(api.OpLoop, number, entry, zero, zero, entry, sum), node(api.OpLoopResult, 1, len(g.Nodes)))
		sum = len(g.Nodes) - 1
	}
	checkValid(t, "all loops have ended", unit(resulting(g, sum, entry)), true)
}
