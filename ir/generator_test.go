package ir_test

import (
	"fmt"
	"math"
	"math/rand/v2"
	"slices"

	"fulling/api"
)

// generator makes valid units, and changes them.
type generator struct {
	random *rand.Rand
	unit   api.Unit
	// nodes and sorts are those of the current function.
	nodes []api.Node
	sorts []int
	known map[string]int
	// recent is the first node of the innermost loop; operands are mostly taken from it on.
	recent int
	loops  int64
}

func newGenerator(seed uint64) *generator {
	return &generator{random: rand.New(rand.NewPCG(seed, 7))}
}

// chance is true once in n times on average.
func (g *generator) chance(n int) bool {
	return g.random.IntN(n) == 0
}

func pick[T any](g *generator, l []T) T {
	return l[g.random.IntN(len(l))]
}

// makeUnit makes a unit with 1 to 3 functions.
func (g *generator) makeUnit() api.Unit {
	for i := range g.random.IntN(api.MaxArrays + 1) {
		g.unit.Arrays = append(g.unit.Arrays, api.Array{Name: fmt.Sprint("x", i), Len: 1 + g.random.IntN(api.MaxLen)})
	}
	for i := range 1 + g.random.IntN(3) {
		g.unit.Funcs = append(g.unit.Funcs, api.Graph{Name: fmt.Sprint("f", i), Params: g.random.IntN(api.MaxParams + 1)})
	}
	for i := range g.unit.Funcs {
		g.fill(&g.unit.Funcs[i])
	}
	return g.unit
}

// fill makes the nodes of a function.
func (g *generator) fill(f *api.Graph) {
	g.nodes, g.sorts, g.known, g.recent, g.loops = nil, nil, map[string]int{}, 0, 0
	g.put(state, api.OpEntry, 0)
	g.put(value, api.OpConst, pick(g, []int64{0, -1, math.MinInt64}))
	for i := range f.Params {
		g.put(value, api.OpParam, int64(i))
	}
	g.putMany(8, 2)
	f.Value, f.State = g.closed(value), g.closed(state)
	f.Nodes = g.nodes
}

// put returns the index of a node, which is a new one if there is none like it.
func (g *generator) put(s, op int, imm int64, kids ...int) int {
	n := node(op, imm, kids...)
	text := fmt.Sprint(n)
	if i, ok := g.known[text]; ok {
		return i
	}
	g.nodes, g.sorts = append(g.nodes, n), append(g.sorts, s)
	g.known[text] = len(g.nodes) - 1
	return len(g.nodes) - 1
}

// putMany puts up to n nodes, which include loops if the depth is not 0.
func (g *generator) putMany(n, depth int) {
	for range g.random.IntN(n + 1) {
		if depth > 0 && g.loops < api.MaxLoops && g.chance(3) {
			g.putLoop(depth - 1)
			continue
		}
		g.putNode()
	}
}

// some returns a node of a sort that is an operation's operand.
func (g *generator) some(s int) int {
	first := 0
	if g.chance(2) {
		first = g.recent
	}
	for {
		var candidates []int
		for i := first; i < len(g.nodes); i++ {
			if g.sorts[i] == s {
				candidates = append(candidates, i)
			}
		}
		if len(candidates) > 0 {
			return pick(g, candidates)
		}
		first = 0
	}
}

func (g *generator) someOf(s, n int) []int {
	var l []int
	for range n {
		l = append(l, g.some(s))
	}
	return l
}

// closed returns a node of a sort that depends on no loop. The node of OpEntry and that of a constant are such nodes.
func (g *generator) closed(s int) int {
	o := newOracle(g.nodes)
	for range 10 {
		if i := g.some(s); o.isClosed(i) {
			return i
		}
	}
	return slices.Index(g.sorts, s)
}

// putLoop puts a loop around some nodes, and its results.
func (g *generator) putLoop(depth int) {
	number, k, outer := g.loops, 1+g.random.IntN(3), g.recent
	if g.chance(12) {
		k = 1 + g.random.IntN(api.MaxVars)
	}
	g.loops++
	initial := append(g.someOf(state, 1), g.someOf(value, k-1)...)
	g.recent = len(g.nodes)
	for i := range k {
		g.put(variableSort(i), api.OpLoopVar, 16*number+int64(i))
	}
	g.putMany(6, depth)
	operands := slices.Concat(initial, g.someOf(value, 1), g.someOf(state, 1), g.someOf(value, k-1))
	g.recent = outer
	l := g.put(loop, api.OpLoop, number, operands...)
	for i := range k {
		g.put(variableSort(i), api.OpLoopResult, int64(i), l)
	}
}

// variableSort returns the sort of a loop's variable.
func variableSort(number int) int {
	if number == 0 {
		return state
	}
	return value
}

// putNode puts any node but those of loops.
func (g *generator) putNode() {
	arrays := len(g.unit.Arrays)
	switch kind := g.random.IntN(11); {
	case kind == 0:
		g.put(value, api.OpConst, pick(g, []int64{0, 1, -1, 7, math.MaxInt64, math.MinInt64}))
	case kind == 1:
		g.put(value, pick(g, []int{api.OpNeg, api.OpNot}), 0, g.some(value))
	case kind == 2 && arrays > 0:
		g.put(value, api.OpLoad, g.random.Int64N(int64(arrays)), g.some(state), g.some(value))
	case kind == 3 && arrays > 0:
		g.put(state, api.OpStore, g.random.Int64N(int64(arrays)), g.some(state), g.some(value), g.some(value))
	case kind == 4:
		s := pick(g, []int{value, state})
		g.put(s, api.OpSelect, 0, g.some(value), g.some(s), g.some(s))
	case kind == 5:
		g.put(state, api.OpGuard, pick(g, []int64{1, 2, 16, 1000016}), g.some(state), g.some(value))
	case kind == 6:
		g.put(state, api.OpOutput, 0, g.some(state), g.some(value))
	case kind == 7:
		to := g.random.IntN(len(g.unit.Funcs))
		call := g.put(state, api.OpCall, int64(to), append(g.someOf(state, 1), g.someOf(value, g.unit.Funcs[to].Params)...)...)
		g.put(value, api.OpCallResult, 0, call)
	default:
		g.put(value, api.OpAdd+g.random.IntN(api.OpLtu-api.OpAdd+1), 0, g.some(value), g.some(value))
	}
}

// change changes one part of a unit.
func (g *generator) change(u *api.Unit) {
	if g.chance(6) {
		g.changeDeclarations(u)
		return
	}
	f := &u.Funcs[g.random.IntN(len(u.Funcs))]
	switch g.random.IntN(9) {
	case 0:
		f.Params = g.nearby(f.Params)
	case 1:
		f.Value = g.otherIndex(f.Value, len(f.Nodes))
	case 2:
		f.State = g.otherIndex(f.State, len(f.Nodes))
	case 3:
		f.Nodes = append(f.Nodes, pick(g, f.Nodes))
	default:
		g.changeNode(&f.Nodes[g.random.IntN(len(f.Nodes))])
	}
}

func (g *generator) nearby(n int) int {
	return pick(g, []int{n - 1, n + 1, 0, -1, 6, 7, 16, 17, math.MaxInt, math.MinInt})
}

func (g *generator) otherIndex(i, n int) int {
	if g.chance(4) {
		return pick(g, []int{-1, n, n + 1, i - 1, i + 1, math.MaxInt, math.MinInt})
	}
	return g.random.IntN(n)
}

func (g *generator) changeNode(n *api.Node) {
	n.Kids = slices.Clone(n.Kids)
	switch {
	case g.chance(6):
		n.Op = g.random.IntN(api.OpLoop + 2)
	case n.Op == api.OpLoop && g.chance(2):
		n.Imm = g.random.Int64N(max(g.loops, 1))
	case g.chance(3):
		n.Imm = pick(g, []int64{n.Imm + 1, n.Imm - 1, n.Imm + 16, n.Imm - 16, n.Imm ^ 3, 0, 1, 15, 16, 255, 256, 1000017})
	case len(n.Kids) > 0 && g.chance(6):
		n.Kids = n.Kids[:len(n.Kids)-1]
	case g.chance(8):
		n.Kids = append(n.Kids, g.random.IntN(6))
	case len(n.Kids) > 0:
		at := g.random.IntN(len(n.Kids))
		n.Kids[at] = g.otherIndex(n.Kids[at], n.Kids[at]+4)
	}
}

func (g *generator) changeDeclarations(u *api.Unit) {
	names := []string{"x0", "x1", "f0", "f1", "x", "", "if", "0x", "a_name_of_16_byte", "a name", "a_name_of_16_byt"}
	switch {
	case len(u.Arrays) > 0 && g.chance(4):
		u.Arrays = u.Arrays[:len(u.Arrays)-1]
	case len(u.Arrays) > 0 && g.chance(4):
		u.Arrays[0].Len = g.nearby(u.Arrays[0].Len)
	case len(u.Arrays) > 0 && g.chance(3):
		u.Arrays[0].Name = pick(g, names)
	case g.chance(5):
		for range g.random.IntN(6) {
			u.Arrays = append(u.Arrays, api.Array{Name: fmt.Sprint("x", len(u.Arrays)), Len: 1})
		}
	case g.chance(3):
		u.Arrays = append(u.Arrays, api.Array{Name: pick(g, names), Len: 1})
	case g.chance(3):
		u.Funcs = append(u.Funcs, slices.Repeat([]api.Graph{graph()}, g.random.IntN(9))...)
		for i := range u.Funcs {
			u.Funcs[i].Name = fmt.Sprint("f", i)
		}
	case g.chance(3) && len(u.Funcs) > 1:
		u.Funcs = u.Funcs[:len(u.Funcs)-1]
	default:
		u.Funcs[0].Name = pick(g, names)
	}
}
