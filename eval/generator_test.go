package eval_test

import (
	"fmt"
	"math"
	"math/rand/v2"
	"slices"

	"fulling/api"
)

// graphMaker makes valid units in which every loop continues its own state, but states are used in several ways.
type graphMaker struct {
	random *rand.Rand
	unit   api.Unit
	*builder
	// root has, for each state, the OpEntry or OpLoopVar to which it leads, or noRoot if there are several.
	root map[int]int
	// unused has the numbers of the loops that the current function does not have yet.
	unused []int
}

const noRoot = -1

// pool has the nodes from which operands are taken.
type pool struct {
	values, states []int
}

func newGraphMaker(seed uint64) *graphMaker {
	return &graphMaker{random: rand.New(rand.NewPCG(seed, 9))}
}

// chance is true once in n times on average.
func (g *graphMaker) chance(n int) bool {
	return g.random.IntN(n) == 0
}

func pick[T any](g *graphMaker, l []T) T {
	return l[g.random.IntN(len(l))]
}

// recent picks mostly one of the last elements.
func recent[T any](g *graphMaker, l []T) T {
	if g.chance(3) {
		return pick(g, l)
	}
	return pick(g, l[max(0, len(l)-4):])
}

// makeUnit makes a unit whose function f is the first one.
func (g *graphMaker) makeUnit() api.Unit {
	for i := range 1 + g.random.IntN(api.MaxArrays) {
		g.unit.Arrays = append(g.unit.Arrays, api.Array{Name: fmt.Sprint("x", i), Len: pick(g, []int{1, 2, 3, api.MaxLen})})
	}
	for _, name := range []string{"f", "g", "h"}[:1+g.random.IntN(3)] {
		g.unit.Funcs = append(g.unit.Funcs, api.Graph{Name: name, Params: g.random.IntN(4)})
	}
	for i := range g.unit.Funcs {
		g.fill(&g.unit.Funcs[i])
	}
	return g.unit
}

// fill makes the nodes of a function.
func (g *graphMaker) fill(f *api.Graph) {
	g.builder, g.root, g.unused = newBuilder(), map[int]int{entry: entry}, g.random.Perm(api.MaxLoops)
	p := &pool{values: []int{g.constant(0), g.constant(1)}, states: []int{entry}}
	for i := range f.Params {
		p.values = append(p.values, g.param(int64(i)))
	}
	g.putMany(p, 4+g.random.IntN(20), pick(g, []int{0, 1, 2, 3}))
	f.Nodes, f.Value, f.State = g.nodes, recent(g, p.values), recent(g, p.states)
}

// putMany puts nodes, which include loops if the depth is not 0.
func (g *graphMaker) putMany(p *pool, n, depth int) {
	for range n {
		switch g.random.IntN(9) {
		case 0, 1, 2:
			p.values = append(p.values, g.putValue(p))
		case 3, 4, 5, 6:
			p.states = append(p.states, g.putState(p))
		case 7:
			p.values = append(p.values, g.put(api.OpConst, pick(g, []int64{0, 1, 2, 3, -1, 5, math.MaxInt64, math.MinInt64})))
		case 8:
			if depth > 0 && len(g.unused) > 0 {
				g.putLoop(p, depth)
			}
		}
	}
}

func (g *graphMaker) putValue(p *pool) int {
	switch g.random.IntN(6) {
	case 0:
		return g.put(pick(g, []int{api.OpNeg, api.OpNot}), 0, recent(g, p.values))
	case 1:
		return g.choose(recent(g, p.values), recent(g, p.values), recent(g, p.values))
	case 2:
		return g.load(g.random.Int64N(int64(len(g.unit.Arrays))), recent(g, p.states), pick(g, p.values))
	case 3:
		return g.callResult(recent(g, p.states))
	}
	return g.put(api.OpAdd+g.random.IntN(api.OpLtu-api.OpAdd+1), 0, recent(g, p.values), recent(g, p.values))
}

func (g *graphMaker) putState(p *pool) int {
	s := recent(g, p.states)
	root := g.root[s]
	switch g.random.IntN(8) {
	case 0:
		condition := recent(g, p.values)
		if g.chance(2) {
			condition = g.put(api.OpOr, 0, condition, g.constant(1))
		}
		s = g.guard(pick(g, []int64{1, 2, api.TrapUser, api.TrapUser + 1000000}), s, condition)
	case 1, 2:
		s = g.store(g.random.Int64N(int64(len(g.unit.Arrays))), s, pick(g, p.values), recent(g, p.values))
	case 3, 4:
		s = g.output(s, recent(g, p.values))
	case 5, 6:
		f := g.random.IntN(len(g.unit.Funcs))
		var args []int
		for range g.unit.Funcs[f].Params {
			args = append(args, recent(g, p.values))
		}
		s = g.call(int64(f), s, args...)
	case 7:
		other := recent(g, p.states)
		if g.root[other] != root {
			root = noRoot
		}
		s = g.choose(recent(g, p.values), s, other)
	}
	g.root[s] = root
	return s
}

// putLoop puts a loop with its body. Afterwards only its results may be used outside.
func (g *graphMaker) putLoop(p *pool, depth int) {
	number := int64(g.unused[0])
	g.unused = g.unused[1:]
	s := g.loopVar(number, 0)
	g.root[s] = s
	body := &pool{values: slices.Clone(p.values), states: append(slices.Clone(p.states), s)}
	initial := []int{recent(g, p.states)}
	for v := range g.random.Int64N(4) {
		initial = append(initial, recent(g, p.values))
		body.values = append(body.values, g.loopVar(number, 1+v))
	}
	g.putMany(body, 2+g.random.IntN(10), depth-1)
	ownStates := []int{s}
	for _, i := range body.states {
		if g.root[i] == s {
			ownStates = append(ownStates, i)
		}
	}
	condition := recent(g, body.values)
	if len(initial) > 1 && g.chance(2) {
		condition = g.put(api.OpLt, 0, g.loopVar(number, 1), g.constant(int64(g.random.IntN(5))))
	}
	next := []int{recent(g, ownStates)}
	for v := range len(initial) - 1 {
		next = append(next, recent(g, body.values))
		if v == 0 && g.chance(2) {
			next[1] = g.add(g.loopVar(number, 1), g.constant(1))
		}
	}
	loop := g.loop(number, initial, condition, next...)
	after := g.loopResult(0, loop)
	g.root[after] = g.root[initial[0]]
	p.states = append(p.states, after)
	for v := range len(initial) - 1 {
		p.values = append(p.values, g.loopResult(int64(1+v), loop))
	}
}

// arguments makes arguments for the first function.
func (g *graphMaker) arguments() []int64 {
	var args []int64
	for range g.unit.Funcs[0].Params {
		args = append(args, pick(g, []int64{0, 0, 1, 2, 3, -1, 100, math.MaxInt64, math.MinInt64}))
	}
	return args
}
