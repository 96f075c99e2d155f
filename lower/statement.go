package lower

import (
	"slices"

	"fulling/api"
)

// loopVarStride is what a loop number is multiplied with in the Imm of an OpLoopVar.
const loopVarStride = 16

func (t *translation) statements(list []api.Stmt) {
	for _, s := range list {
		t.statement(s)
	}
}

func (t *translation) statement(s api.Stmt) {
	switch s.Kind {
	case api.StmtAssign:
		t.assign(s.Name, t.expression(s.Value))
	case api.StmtStore:
		t.store(s)
	case api.StmtIf:
		t.alternatives(s)
	case api.StmtWhile:
		t.loop(s)
	case api.StmtOut:
		value := t.expression(s.Value)
		t.state = t.put(api.OpOutput, 0, t.state, value)
	case api.StmtCall:
		t.call(s)
	case api.StmtTrap:
		t.guard(api.TrapUser+s.N, t.constant(0))
	}
}

// store guards the index last, because a trap in Value precedes the one for an index out of bounds.
func (t *translation) store(s api.Stmt) {
	array, at := t.array(s.Name), t.expression(s.At)
	value := t.expression(s.Value)
	t.guardIndex(array, at)
	t.state = t.put(api.OpStore, int64(array), t.state, at, value)
}

func (t *translation) call(s api.Stmt) {
	operands := make([]int, 1+len(s.Args))
	for i, e := range s.Args {
		operands[1+i] = t.expression(e)
	}
	operands[0] = t.state
	t.state = t.put(api.OpCall, int64(t.function(s.To)), operands...)
	t.assign(s.Name, t.put(api.OpCallResult, 0, t.state))
}

func (t *translation) alternatives(s api.Stmt) {
	condition := t.expression(s.Value)
	before := t.environment.clone()
	t.statements(s.Then)
	afterThen := t.environment
	t.environment = before
	t.statements(s.Else)
	for i, value := range t.values {
		t.values[i] = t.merge(condition, afterThen.values[i], value)
	}
	t.state = t.merge(condition, afterThen.state, t.state)
}

// loop translates the condition twice, because OpLoop evaluates it after what is repeated:
// before the first iteration it decides whether there is one.
func (t *translation) loop(s api.Stmt) {
	number := t.loops
	t.loops++
	condition := t.expression(s.Value)
	variables := t.assignedVariables(s.Then)
	initial := t.loopNodes(variables)
	t.setLoopNodes(variables, t.putLoopVars(number, len(initial)))
	t.statements(s.Then)
	again := t.expression(s.Value)
	operands := slices.Concat(initial, []int{again}, t.loopNodes(variables))
	loop := t.put(api.OpLoop, int64(number), operands...)
	var after []int
	for i, before := range initial {
		result := t.put(api.OpLoopResult, int64(i), loop)
		after = append(after, t.merge(condition, result, before))
	}
	t.setLoopNodes(variables, after)
}

// putLoopVars puts the nodes of a loop's first variables.
func (t *translation) putLoopVars(loop, count int) []int {
	var nodes []int
	for i := range count {
		nodes = append(nodes, t.put(api.OpLoopVar, int64(loopVarStride*loop+i)))
	}
	return nodes
}

// assignedVariables returns the places of the variables that a list of statements assigns, in their order.
func (t *translation) assignedVariables(list []api.Stmt) []int {
	var variables []int
	for v, name := range t.variables {
		if assigns(list, name) {
			variables = append(variables, v)
		}
	}
	return variables
}

func assigns(list []api.Stmt, name string) bool {
	return slices.ContainsFunc(list, func(s api.Stmt) bool {
		isAssignment := s.Kind == api.StmtAssign || s.Kind == api.StmtCall
		return isAssignment && s.Name == name || assigns(s.Then, name) || assigns(s.Else, name)
	})
}
