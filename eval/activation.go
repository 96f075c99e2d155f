package eval

import (
	"fulling/api"
	"fulling/word"
)

// loopVarStride is what a loop number is multiplied with in the Imm of an OpLoopVar.
const loopVarStride = 16

// run is what all activations of functions share.
// The unit is valid: operands are earlier nodes of the right sort, and the arrays, functions and loop variables that nodes name exist.
type run struct {
	functions []function
	// isEndless is set when a loop goes on for longer than any fuel lasts. Nothing that is evaluated afterwards counts.
	isEndless bool
}

type function struct {
	api.Graph
	// repeated has, by the number of each loop, the nodes that depend on it.
	repeated [api.MaxLoops][]int
}

func newRun(u api.Unit) *run {
	r := &run{}
	for _, g := range u.Funcs {
		r.functions = append(r.functions, function{Graph: g, repeated: repeatedNodes(g.Nodes)})
	}
	return r
}

// result is what a node has been evaluated to. It has a word for a value, a state for a state, and nothing for a loop.
type result struct {
	isKnown bool
	word    int64
	state   *state
}

// activation is one call of a function. It has no run if its nodes need neither states nor loops.
type activation struct {
	*run
	function *function
	args     []int64
	entry    *state
	// results has that of each node. Those of nodes that depend on a loop are forgotten when an iteration of it starts.
	results []result
	// variables has, by the number of each loop, the current values of its variables, which are the last ones after it has ended.
	variables [api.MaxLoops][]result
}

// call returns the state in which a function ends that is entered in a state, and its value, which is 0 if that state has stopped.
func (r *run) call(f int, args []int64, before *state) (*state, int64) {
	called := &r.functions[f]
	a := &activation{run: r, function: called, args: args, entry: before.withCallResult(0), results: make([]result, len(called.Nodes))}
	last := a.evaluate(called.State).state
	if last.hasStopped() {
		return last, 0
	}
	return last, a.evaluate(called.Value).word
}

// evaluate returns the result of node i. It keeps the nodes that wait for their operands in a list,
// because recursion would be too deep for the stack if a thousand calls are nested. It recurs only for calls and loops.
func (a *activation) evaluate(i int) result {
	waiting := []int{i}
	for len(waiting) > 0 {
		next := waiting[len(waiting)-1]
		if operand, isMissing := a.missingOperand(next); isMissing {
			waiting = append(waiting, operand)
			continue
		}
		waiting = waiting[:len(waiting)-1]
		if !a.results[next].isKnown {
			a.results[next] = a.compute(a.function.Nodes[next])
		}
	}
	return a.results[i]
}

// missingOperand returns an operand that has to be evaluated before node i.
func (a *activation) missingOperand(i int) (int, bool) {
	if a.results[i].isKnown {
		return 0, false
	}
	for _, operand := range a.neededOperands(a.function.Nodes[i]) {
		if !a.results[operand].isKnown {
			return operand, true
		}
	}
	return 0, false
}

// neededOperands returns the operands that a node needs, or the first of them as long as that decides about the others.
func (a *activation) neededOperands(n api.Node) []int {
	switch n.Op {
	case api.OpSelect:
		if !a.results[n.Kids[0]].isKnown {
			return n.Kids[:1]
		}
		chosen := a.chosenPlace(n)
		return n.Kids[chosen : chosen+1]
	case api.OpGuard, api.OpOutput, api.OpCall:
		before := a.results[n.Kids[0]]
		if !before.isKnown || before.state.hasStopped() {
			return n.Kids[:1]
		}
	case api.OpLoop:
		return n.Kids[:len(n.Kids)/2]
	}
	return n.Kids
}

// chosenPlace returns the place of the operand that an OpSelect chooses, whose condition is known.
func (a *activation) chosenPlace(n api.Node) int {
	if a.word(n, 0) != 0 {
		return 1
	}
	return 2
}

// compute returns the result of a node whose needed operands are known.
func (a *activation) compute(n api.Node) result {
	switch n.Op {
	case api.OpSelect:
		return a.results[n.Kids[a.chosenPlace(n)]]
	case api.OpLoopVar:
		return a.variables[n.Imm/loopVarStride][n.Imm%loopVarStride]
	case api.OpLoopResult:
		return a.variables[a.function.Nodes[n.Kids[0]].Imm][n.Imm]
	case api.OpLoop:
		a.repeat(n)
		return result{isKnown: true}
	case api.OpEntry:
		return result{isKnown: true, state: a.entry}
	case api.OpGuard, api.OpStore, api.OpOutput, api.OpCall:
		return result{isKnown: true, state: a.nextState(n)}
	}
	return result{isKnown: true, word: a.value(n)}
}

// value returns the result of an operation that is a value, but for OpSelect and the variables of loops.
func (a *activation) value(n api.Node) int64 {
	switch n.Op {
	case api.OpConst:
		return n.Imm
	case api.OpParam:
		return a.args[n.Imm]
	case api.OpNeg, api.OpNot:
		return word.Unary(n.Op, a.word(n, 0))
	case api.OpLoad:
		return a.state(n).load(n.Imm, a.word(n, 1))
	case api.OpCallResult:
		return a.state(n).callResult
	}
	return word.Binary(n.Op, a.word(n, 0), a.word(n, 1))
}

// nextState returns the result of a state that continues another one.
func (a *activation) nextState(n api.Node) *state {
	before := a.state(n)
	if n.Op == api.OpStore {
		return before.store(n.Imm, a.word(n, 1), a.word(n, 2))
	}
	if before.hasStopped() {
		return before
	}
	switch n.Op {
	case api.OpGuard:
		if a.word(n, 1) == 0 {
			return before.trap(n.Imm)
		}
		return before
	case api.OpOutput:
		return before.withOutput(a.word(n, 1))
	}
	return a.callFunction(n)
}

// callFunction returns the result of an OpCall in a state that has not stopped.
func (a *activation) callFunction(n api.Node) *state {
	before := a.state(n)
	ticked := before.tick()
	if ticked.hasStopped() || a.isEndless {
		return ticked
	}
	var args []int64
	for at := range n.Kids[1:] {
		args = append(args, a.word(n, 1+at))
	}
	last, value := a.call(int(n.Imm), args, ticked)
	if last.hasStopped() {
		return last.withCallResult(before.callResult)
	}
	return last.withCallResult(value)
}

// word returns the operand of a node at a place, which is a value that is known.
func (a *activation) word(n api.Node, at int) int64 {
	return a.results[n.Kids[at]].word
}

// state returns the first operand of a node, which is a state that is known.
func (a *activation) state(n api.Node) *state {
	return a.results[n.Kids[0]].state
}
