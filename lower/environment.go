package lower

import "slices"

// environment has the nodes of the current state and of the current values of the variables.
type environment struct {
	state  int
	values []int
}

func (e environment) clone() environment {
	return environment{state: e.state, values: slices.Clone(e.values)}
}

// loopNodes returns the nodes of what a loop changes: of the state, followed by those of some variables.
func (e environment) loopNodes(variables []int) []int {
	nodes := []int{e.state}
	for _, v := range variables {
		nodes = append(nodes, e.values[v])
	}
	return nodes
}

func (e *environment) setLoopNodes(variables, nodes []int) {
	e.state = nodes[0]
	for i, v := range variables {
		e.values[v] = nodes[1+i]
	}
}
