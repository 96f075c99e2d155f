package interp

import "fulling/api"

// executeAll returns false if the run has ended.
func (a activation) executeAll(list []api.Stmt) bool {
	for _, s := range list {
		if !a.execute(s) {
			return false
		}
	}
	return true
}

// execute returns false if the run has ended.
func (a activation) execute(s api.Stmt) bool {
	switch s.Kind {
	case api.StmtAssign:
		return a.assign(s)
	case api.StmtStore:
		return a.store(s)
	case api.StmtIf:
		return a.executeAlternative(s)
	case api.StmtWhile:
		return a.repeat(s)
	case api.StmtOut:
		return a.output(s)
	case api.StmtCall:
		return a.assignResult(s)
	}
	return a.trap(api.TrapUser + s.N)
}

func (a activation) assign(s api.Stmt) bool {
	value, ok := a.evaluate(s.Value)
	if !ok {
		return false
	}
	a.variables[s.Name] = value
	return true
}

// store looks for the cell last, because a trap in Value precedes the one for an index out of bounds.
func (a activation) store(s api.Stmt) bool {
	at, ok := a.evaluate(s.At)
	if !ok {
		return false
	}
	value, ok := a.evaluate(s.Value)
	if !ok {
		return false
	}
	cell, ok := a.cell(s.Name, at)
	if !ok {
		return false
	}
	*cell = value
	return true
}

func (a activation) executeAlternative(s api.Stmt) bool {
	condition, ok := a.evaluate(s.Value)
	if !ok {
		return false
	}
	if condition != 0 {
		return a.executeAll(s.Then)
	}
	return a.executeAll(s.Else)
}

// repeat ends even for a condition that never becomes 0, because each iteration ticks.
func (a activation) repeat(s api.Stmt) bool {
	for {
		condition, ok := a.evaluate(s.Value)
		if !ok {
			return false
		}
		if condition == 0 {
			return true
		}
		if !a.tick() || !a.executeAll(s.Then) {
			return false
		}
	}
}

func (a activation) output(s api.Stmt) bool {
	value, ok := a.evaluate(s.Value)
	if !ok {
		return false
	}
	a.outcome.Out = append(a.outcome.Out, value)
	return true
}

func (a activation) assignResult(s api.Stmt) bool {
	args, ok := a.evaluateAll(s.Args)
	if !ok || !a.tick() {
		return false
	}
	value, ok := a.call(a.functions[s.To], args)
	if !ok {
		return false
	}
	a.variables[s.Name] = value
	return true
}
