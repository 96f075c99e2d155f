package lower_test

import (
	"slices"

	"fulling/api"
	"fulling/word"
)

// outputs is the output of a state, from the last word to the first.
type outputs struct {
	word   int64
	before *outputs
}

// state is never changed, but copied.
type state struct {
	arrays [][]int64
	out    *outputs
	fuel   int
	// kind and code say why the state has stopped; kind is 0 if it has not.
	kind, code int
	// result is that of the last call of the activation.
	result int64
}

// tick returns the state with less fuel, or the stopped state if there is none.
func (s state) tick() state {
	if s.fuel == 0 {
		s.kind = api.OutOfFuel
		return s
	}
	s.fuel--
	return s
}

func (s state) store(array, at, cell int64) state {
	if at >= 0 && at < int64(len(s.arrays[array])) {
		s.arrays = slices.Clone(s.arrays)
		s.arrays[array] = slices.Clone(s.arrays[array])
		s.arrays[array][at] = cell
	}
	return s
}

func (s state) load(array, at int64) int64 {
	if at < 0 || at >= int64(len(s.arrays[array])) {
		return 0
	}
	return s.arrays[array][at]
}

// evaluator runs the functions of a valid unit.
type evaluator struct {
	unit api.Unit
	// repeated has, for each function and by the number of each loop, the nodes that may change with its iterations.
	repeated []map[int64][]int
}

func newEvaluator(u api.Unit) *evaluator {
	e := &evaluator{unit: u}
	for _, g := range u.Funcs {
		e.repeated = append(e.repeated, repeatedNodes(g.Nodes))
	}
	return e
}

func repeatedNodes(l []api.Node) map[int64][]int {
	repeated := map[int64][]int{}
	changing := make([]map[int64]bool, len(l))
	for i, n := range l {
		changing[i] = map[int64]bool{}
		if n.Op == api.OpLoopVar {
			changing[i][n.Imm/16] = true
		}
		for at, kid := range n.Kids {
			for loop := range changing[kid] {
				if n.Op != api.OpLoop || n.Imm != loop || at < len(n.Kids)/2 {
					changing[i][loop] = true
				}
			}
		}
		for loop := range changing[i] {
			repeated[loop] = append(repeated[loop], i)
		}
	}
	return repeated
}

// activation evaluates the graph of a function on demand, as DOC.md describes it.
type activation struct {
	*evaluator
	function int
	args     []int64
	entry    state
	// known has what has been evaluated: an int64, a state, or the last values of a loop's variables.
	known map[int]any
	// variables has the current values of the loop variables by their Imm.
	variables map[int64]any
}

// enter evaluates the state of a function, and its value if that state has not stopped.
func (e *evaluator) enter(function int, args []int64, entry state) (state, int64) {
	entry.result = 0
	a := &activation{evaluator: e, function: function, args: args, entry: entry, known: map[int]any{}, variables: map[int64]any{}}
	g := e.unit.Funcs[function]
	s := a.state(g.State)
	if s.kind != 0 {
		return s, 0
	}
	return s, a.value(g.Value)
}

func (a *activation) value(i int) int64 {
	return a.evaluate(i).(int64)
}

func (a *activation) state(i int) state {
	return a.evaluate(i).(state)
}

func (a *activation) evaluateAll(l []int) []any {
	var all []any
	for _, i := range l {
		all = append(all, a.evaluate(i))
	}
	return all
}

func (a *activation) evaluate(i int) any {
	v, known := a.known[i]
	if !known {
		v = a.compute(a.unit.Funcs[a.function].Nodes[i])
		a.known[i] = v
	}
	return v
}

func (a *activation) compute(n api.Node) any {
	switch n.Op {
	case api.OpConst:
		return n.Imm
	case api.OpParam:
		return a.args[n.Imm]
	case api.OpLoopVar:
		return a.variables[n.Imm]
	case api.OpNeg, api.OpNot:
		return word.Unary(n.Op, a.value(n.Kids[0]))
	case api.OpSelect:
		if a.value(n.Kids[0]) != 0 {
			return a.evaluate(n.Kids[1])
		}
		return a.evaluate(n.Kids[2])
	case api.OpLoad:
		return a.state(n.Kids[0]).load(n.Imm, a.value(n.Kids[1]))
	case api.OpCallResult:
		return a.state(n.Kids[0]).result
	case api.OpLoopResult:
		return a.evaluate(n.Kids[0]).([]any)[n.Imm]
	case api.OpEntry:
		return a.entry
	case api.OpStore:
		return a.state(n.Kids[0]).store(n.Imm, a.value(n.Kids[1]), a.value(n.Kids[2]))
	case api.OpLoop:
		return a.loop(n)
	case api.OpGuard, api.OpOutput, api.OpCall:
		s := a.state(n.Kids[0])
		if s.kind != 0 {
			return s
		}
		return a.continueState(n, s)
	}
	return word.Binary(n.Op, a.value(n.Kids[0]), a.value(n.Kids[1]))
}

// continueState continues a state that has not stopped.
func (a *activation) continueState(n api.Node, s state) state {
	switch n.Op {
	case api.OpGuard:
		if a.value(n.Kids[1]) == 0 {
			s.kind, s.code = api.Trapped, int(n.Imm)
		}
	case api.OpOutput:
		s.out = &outputs{a.value(n.Kids[1]), s.out}
	case api.OpCall:
		var args []int64
		for _, kid := range n.Kids[1:] {
			args = append(args, a.value(kid))
		}
		before := s.result
		if s = s.tick(); s.kind != 0 {
			return s
		}
		after, value := a.enter(int(n.Imm), args, s)
		after.result = before
		if after.kind == 0 {
			after.result = value
		}
		return after
	}
	return s
}

// loop returns the last values of a loop's variables.
func (a *activation) loop(n api.Node) []any {
	k := len(n.Kids) / 2
	current, condition := a.evaluateAll(n.Kids[:k]), int64(1)
	for condition != 0 && current[0].(state).kind == 0 {
		current = slices.Clone(current)
		ticked := current[0].(state).tick()
		current[0] = ticked
		if ticked.kind != 0 {
			break
		}
		for i, v := range current {
			a.variables[16*n.Imm+int64(i)] = v
		}
		for _, i := range a.repeated[a.function][n.Imm] {
			delete(a.known, i)
		}
		condition = a.value(n.Kids[k])
		current = a.evaluateAll(n.Kids[k+1:])
	}
	return current
}

// run runs a function from the start.
func (e *evaluator) run(name string, args []int64, fuel int) api.Outcome {
	entry := state{fuel: fuel}
	for _, a := range e.unit.Arrays {
		entry.arrays = append(entry.arrays, make([]int64, a.Len))
	}
	function := slices.IndexFunc(e.unit.Funcs, func(g api.Graph) bool { return g.Name == name })
	s, value := e.enter(function, args, entry)
	o := api.Outcome{Kind: s.kind, Code: s.code, Value: value}
	if s.kind == 0 {
		o.Kind = api.Returned
	}
	for out := s.out; out != nil; out = out.before {
		o.Out = append(o.Out, out.word)
	}
	slices.Reverse(o.Out)
	return o
}
