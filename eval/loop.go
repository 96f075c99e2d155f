package eval

import (
	"math/bits"

	"fulling/api"
)

// repeat performs the iterations of an OpLoop whose initial values are known.
func (a *activation) repeat(n api.Node) {
	initial := n.Kids[:len(n.Kids)/2]
	a.variables[n.Imm] = make([]result, len(initial))
	a.setVariables(n.Imm, initial)
	if a.variables[n.Imm][0].state.hasStopped() {
		return
	}
	for iterations := 1; !a.isEndless && a.iterate(n); iterations++ {
		// A loop whose states continue one another completes at most MaxFuel iterations, because each of them uses fuel.
		if iterations > api.MaxFuel {
			a.isEndless = true
		}
	}
}

// iterate performs one iteration in a state that has not stopped. It returns whether there is a further one.
func (a *activation) iterate(n api.Node) bool {
	variables := a.variables[n.Imm]
	variables[0].state = variables[0].state.tick()
	if variables[0].state.hasStopped() {
		return false
	}
	for _, i := range a.function.repeated[n.Imm] {
		a.results[i] = result{}
	}
	again, next := n.Kids[len(variables)], n.Kids[len(variables)+1:]
	condition := a.evaluate(again).word
	for _, i := range next {
		a.evaluate(i)
	}
	// The variables keep their values until here, because each next value may need all of them.
	a.setVariables(n.Imm, next)
	return condition != 0 && !variables[0].state.hasStopped()
}

// setVariables sets the variables of a loop to the results of nodes, which are known.
func (a *activation) setVariables(loop int64, nodes []int) {
	for v, i := range nodes {
		a.variables[loop][v] = a.results[i]
	}
}

// loopSet has bit n if it contains loop n.
type loopSet uint

// repeatedNodes returns, by the number of each loop, the nodes of a valid graph that depend on it and may be evaluated.
func repeatedNodes(l []api.Node) [api.MaxLoops][]int {
	var repeated [api.MaxLoops][]int
	loops := make([]loopSet, len(l))
	for i, n := range l {
		loops[i] = loopsOf(n, loops)
		for set := loops[i]; set != 0; set &= set - 1 {
			loop := bits.TrailingZeros(uint(set))
			repeated[loop] = append(repeated[loop], i)
		}
	}
	return repeated
}

// loopsOf returns the loops on which a node depends, from those of earlier nodes.
func loopsOf(n api.Node, loops []loopSet) loopSet {
	if n.Op == api.OpLoopVar {
		return 1 << (n.Imm / loopVarStride)
	}
	var all loopSet
	for _, kid := range n.Kids {
		all |= loops[kid]
	}
	if n.Op == api.OpLoop {
		// A loop defines its own variables for what it repeats. If its initial values depend on them, too, it is never evaluated.
		all &^= 1 << n.Imm
	}
	return all
}
