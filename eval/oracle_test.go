package eval_test

import (
	"maps"
	"slices"

	"fulling/api"
	"fulling/word"
)

// cell is a place in the arrays.
type cell struct {
	array, at int64
}

// world is a state that is copied as a whole for each change.
type world struct {
	cells   map[cell]int64
	out     []int64
	fuel    int
	end     api.Outcome
	callees []int64
}

func (w world) copy() world {
	w.cells, w.out, w.callees = maps.Clone(w.cells), slices.Clone(w.out), slices.Clone(w.callees)
	return w
}

func (w world) hasEnded() bool {
	return w.end.Kind != 0
}

// ticked returns the world with less fuel, or the ended one.
func (w world) ticked() world {
	w = w.copy()
	if w.fuel == 0 {
		w.end.Kind = api.OutOfFuel
	} else {
		w.fuel--
	}
	return w
}

// scope evaluates nodes for fixed values of the variables of all loops around it. It shares no results with the scopes of other
// iterations, so that it needs not know which nodes depend on a loop.
type scope struct {
	*oracle
	graph api.Graph
	args  []int64
	start world
	// loop is the number of the innermost loop, whose variables are values, and state is its variable 0.
	loop   int64
	values []int64
	state  world
	around *scope
	words  map[int]int64
	worlds map[int]world
	loops  map[int]*scope
}

// oracle evaluates units in a way of its own, slowly, and gives up after some steps.
type oracle struct {
	unit  api.Unit
	steps int
}

type tooManySteps struct{}

func (o *oracle) step() {
	o.steps--
	if o.steps < 0 {
		panic(tooManySteps{})
	}
}

func (o *oracle) scope(graph api.Graph, args []int64, start world) *scope {
	return &scope{oracle: o, graph: graph, args: args, start: start, loop: -1, words: map[int]int64{}, worlds: map[int]world{}, loops: map[int]*scope{}}
}

// inside returns the scope of an iteration.
func (s *scope) inside(loop int64, state world, values []int64) *scope {
	inner := s.oracle.scope(s.graph, s.args, s.start)
	inner.loop, inner.state, inner.values, inner.around = loop, state, values, s
	return inner
}

// of returns the scope around this one, or this one, that has the variables of a loop.
func (s *scope) of(loop int64) *scope {
	for s.loop != loop {
		s = s.around
	}
	return s
}

func (s *scope) value(i int) int64 {
	v, ok := s.words[i]
	if !ok {
		s.step()
		v = s.computeValue(s.graph.Nodes[i])
		s.words[i] = v
	}
	return v
}

func (s *scope) computeValue(n api.Node) int64 {
	switch n.Op {
	case api.OpConst:
		return n.Imm
	case api.OpParam:
		return s.args[n.Imm]
	case api.OpLoopVar:
		return s.of(n.Imm / 16).values[n.Imm%16-1]
	case api.OpNeg, api.OpNot:
		return word.Unary(n.Op, s.value(n.Kids[0]))
	case api.OpSelect:
		if s.value(n.Kids[0]) == 0 {
			return s.value(n.Kids[2])
		}
		return s.value(n.Kids[1])
	case api.OpLoad:
		// Cells that do not exist are never stored.
		return s.world(n.Kids[0]).cells[cell{n.Imm, s.value(n.Kids[1])}]
	case api.OpCallResult:
		results := s.world(n.Kids[0]).callees
		return results[len(results)-1]
	case api.OpLoopResult:
		return s.after(n.Kids[0]).values[n.Imm-1]
	}
	return word.Binary(n.Op, s.value(n.Kids[0]), s.value(n.Kids[1]))
}

func (s *scope) world(i int) world {
	w, ok := s.worlds[i]
	if !ok {
		s.step()
		w = s.computeWorld(s.graph.Nodes[i])
		s.worlds[i] = w
	}
	return w
}

func (s *scope) computeWorld(n api.Node) world {
	switch n.Op {
	case api.OpEntry:
		return s.start
	case api.OpLoopVar:
		return s.of(n.Imm / 16).state
	case api.OpLoopResult:
		return s.after(n.Kids[0]).state
	case api.OpSelect:
		if s.value(n.Kids[0]) == 0 {
			return s.world(n.Kids[2])
		}
		return s.world(n.Kids[1])
	}
	w := s.world(n.Kids[0]).copy()
	switch n.Op {
	case api.OpStore:
		at := s.value(n.Kids[1])
		if uint64(at) < uint64(s.unit.Arrays[n.Imm].Len) {
			w.cells[cell{n.Imm, at}] = s.value(n.Kids[2])
		}
	case api.OpGuard:
		if !w.hasEnded() && s.value(n.Kids[1]) == 0 {
			w.end = api.Outcome{Kind: api.Trapped, Code: int(n.Imm)}
		}
	case api.OpOutput:
		if !w.hasEnded() {
			w.out = append(w.out, s.value(n.Kids[1]))
		}
	case api.OpCall:
		if !w.hasEnded() {
			w = s.called(n, w.ticked())
		}
	}
	return w
}

// called returns the world after a call. The results of calls are those of all activations around, with the current one at the end.
func (s *scope) called(n api.Node, w world) world {
	if w.hasEnded() {
		return w
	}
	var args []int64
	for _, kid := range n.Kids[1:] {
		args = append(args, s.value(kid))
	}
	w.callees = append(w.callees, 0)
	callee := s.oracle.scope(s.unit.Funcs[n.Imm], args, w)
	w = callee.world(callee.graph.State).copy()
	depth := len(s.start.callees)
	w.callees = w.callees[:depth]
	if !w.hasEnded() {
		w.callees[depth-1] = callee.value(callee.graph.Value)
	}
	return w
}

// after returns the scope that has the variables after the last iteration of a loop.
func (s *scope) after(i int) *scope {
	last, ok := s.loops[i]
	if !ok {
		last = s.runLoop(s.graph.Nodes[i])
		s.loops[i] = last
	}
	return last
}

func (s *scope) runLoop(n api.Node) *scope {
	k := len(n.Kids) / 2
	current := s.inside(n.Imm, s.world(n.Kids[0]), nil)
	for _, kid := range n.Kids[1:k] {
		current.values = append(current.values, s.value(kid))
	}
	for again := true; again && !current.state.hasEnded(); {
		s.step()
		current = s.inside(n.Imm, current.state.ticked(), current.values)
		if current.state.hasEnded() {
			break
		}
		again = current.value(n.Kids[k]) != 0
		next := s.inside(n.Imm, current.world(n.Kids[k+1]), nil)
		for _, kid := range n.Kids[k+2:] {
			next.values = append(next.values, current.value(kid))
		}
		current = next
	}
	return current
}

// expected returns the outcome of the first function of a valid unit, or false if it takes too many steps.
func expected(u api.Unit, args []int64, fuel int) (outcome api.Outcome, ok bool) {
	defer func() {
		if r := recover(); r != nil {
			if _, isExpected := r.(tooManySteps); !isExpected {
				panic(r)
			}
			outcome, ok = api.Outcome{}, false
		}
	}()
	o := &oracle{unit: u, steps: 20000}
	s := o.scope(u.Funcs[0], args, world{cells: map[cell]int64{}, fuel: fuel, callees: []int64{0}})
	w := s.world(s.graph.State)
	outcome = w.end
	outcome.Out = w.out
	if !w.hasEnded() {
		outcome.Kind, outcome.Value = api.Returned, s.value(s.graph.Value)
	}
	return outcome, true
}
