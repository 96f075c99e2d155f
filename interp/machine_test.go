package interp_test

import (
	"fulling/api"
	"fulling/word"
)

// machine runs programs in another way than Run: it does not follow the tree, but executes flat code with a stack of values.
type machine struct {
	code []instruction
	// starts has the places where the functions start in the code.
	starts    map[string]int
	functions map[string]api.Func
	arrays    map[string][]int64
	fuel      int
	// next is the place of the next instruction.
	next    int
	values  []int64
	frames  []frame
	outcome api.Outcome
}

type instruction func(m *machine)

// frame has the variables of an activation and the place where its caller continues.
type frame struct {
	variables map[string]int64
	back      int
}

// assemble translates all functions of a valid program.
func assemble(p api.Program) *machine {
	m := &machine{starts: map[string]int{}, functions: map[string]api.Func{}}
	for _, f := range p.Funcs {
		m.functions[f.Name], m.starts[f.Name] = f, len(m.code)
		m.assembleBody(f.Body)
		m.assembleValue(f.Value)
		m.add(func(m *machine) { m.leave() })
	}
	return m
}

func (m *machine) add(i instruction) {
	m.code = append(m.code, i)
}

// addJump adds a jump, which is taken if the condition has this truth, and returns a function that sets its target to the next instruction.
func (m *machine) addJump(truth bool) func() {
	target := 0
	m.add(func(m *machine) {
		if (m.pop() != 0) == truth {
			m.next = target
		}
	})
	return func() { target = len(m.code) }
}

// addAlways pushes 1 and jumps.
func (m *machine) addAlways() func() {
	m.add(func(m *machine) { m.push(1) })
	return m.addJump(true)
}

func (m *machine) assembleBody(list []api.Stmt) {
	for _, s := range list {
		m.assembleStatement(s)
	}
}

func (m *machine) assembleStatement(s api.Stmt) {
	switch s.Kind {
	case api.StmtAssign:
		m.assembleValue(s.Value)
		m.add(func(m *machine) { m.top().variables[s.Name] = m.pop() })
	case api.StmtStore:
		m.assembleValue(s.At)
		m.assembleValue(s.Value)
		m.add(func(m *machine) { m.store(s.Name) })
	case api.StmtIf:
		m.assembleValue(s.Value)
		otherwise := m.addJump(false)
		m.assembleBody(s.Then)
		end := m.addAlways()
		otherwise()
		m.assembleBody(s.Else)
		end()
	case api.StmtWhile:
		start := len(m.code)
		m.assembleValue(s.Value)
		end := m.addJump(false)
		m.add(func(m *machine) { m.tick() })
		m.assembleBody(s.Then)
		m.add(func(m *machine) { m.next = start })
		end()
	case api.StmtOut:
		m.assembleValue(s.Value)
		m.add(func(m *machine) { m.outcome.Out = append(m.outcome.Out, m.pop()) })
	case api.StmtCall:
		for _, e := range s.Args {
			m.assembleValue(e)
		}
		m.add(func(m *machine) { m.tick() })
		m.add(func(m *machine) { m.enter(s.To) })
		m.add(func(m *machine) { m.top().variables[s.Name] = m.pop() })
	case api.StmtTrap:
		m.add(func(m *machine) { m.end(api.Outcome{Kind: api.Trapped, Code: 16 + s.N}) })
	}
}

func (m *machine) assembleValue(e api.Expr) {
	switch {
	case e.Kind == api.ExprNum:
		m.add(func(m *machine) { m.push(e.N) })
	case e.Kind == api.ExprVar:
		m.add(func(m *machine) { m.push(m.top().variables[e.Name]) })
	case e.Kind == api.ExprIndex:
		m.assembleValue(e.Kids[0])
		m.add(func(m *machine) { m.load(e.Name) })
	case e.Kind == api.ExprCond:
		m.assembleValue(e.Kids[0])
		otherwise := m.addJump(false)
		m.assembleValue(e.Kids[1])
		end := m.addAlways()
		otherwise()
		m.assembleValue(e.Kids[2])
		end()
	case e.Op == api.OpNeg || e.Op == api.OpNot:
		m.assembleValue(e.Kids[0])
		m.add(func(m *machine) { m.push(word.Unary(e.Op, m.pop())) })
	default:
		m.assembleValue(e.Kids[0])
		m.assembleValue(e.Kids[1])
		m.add(func(m *machine) { m.operate(e.Op) })
	}
}

// run executes a function from the start. The arguments are as many as it needs.
func (m *machine) run(p api.Program, name string, args []int64, fuel int) api.Outcome {
	m.arrays, m.fuel, m.outcome = map[string][]int64{}, fuel, api.Outcome{}
	for _, a := range p.Arrays {
		m.arrays[a.Name] = make([]int64, a.Len)
	}
	m.values, m.frames, m.next = append([]int64(nil), args...), nil, -1
	m.enter(name)
	for m.outcome.Kind == 0 {
		m.next++
		m.code[m.next-1](m)
	}
	return m.outcome
}

func (m *machine) end(o api.Outcome) {
	o.Out = m.outcome.Out
	m.outcome = o
}

func (m *machine) push(v int64) {
	m.values = append(m.values, v)
}

func (m *machine) pop() int64 {
	v := m.values[len(m.values)-1]
	m.values = m.values[:len(m.values)-1]
	return v
}

func (m *machine) top() frame {
	return m.frames[len(m.frames)-1]
}

func (m *machine) tick() {
	m.fuel--
	if m.fuel < 0 {
		m.end(api.Outcome{Kind: api.OutOfFuel})
	}
}

func (m *machine) enter(name string) {
	params := m.functions[name].Params
	variables := map[string]int64{}
	for i := range params {
		variables[params[len(params)-1-i]] = m.pop()
	}
	m.frames = append(m.frames, frame{variables: variables, back: m.next})
	m.next = m.starts[name]
}

// leave leaves the value of the activation on the stack.
func (m *machine) leave() {
	m.next = m.top().back
	m.frames = m.frames[:len(m.frames)-1]
	if len(m.frames) == 0 {
		m.end(api.Outcome{Kind: api.Returned, Value: m.pop()})
	}
}

// isIndex ends the run if it returns false.
func (m *machine) isIndex(array string, at int64) bool {
	if uint64(at) >= uint64(len(m.arrays[array])) {
		m.end(api.Outcome{Kind: api.Trapped, Code: 2})
		return false
	}
	return true
}

func (m *machine) load(array string) {
	if at := m.pop(); m.isIndex(array, at) {
		m.push(m.arrays[array][at])
	}
}

func (m *machine) store(array string) {
	v, at := m.pop(), m.pop()
	if m.isIndex(array, at) {
		m.arrays[array][at] = v
	}
}

func (m *machine) operate(op int) {
	b, a := m.pop(), m.pop()
	if (op == api.OpDiv || op == api.OpRem) && b == 0 {
		m.end(api.Outcome{Kind: api.Trapped, Code: 1})
		return
	}
	m.push(word.Binary(op, a, b))
}
