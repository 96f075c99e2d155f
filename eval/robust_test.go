package eval_test

import (
	"fmt"
	"math"
	"reflect"
	"slices"
	"testing"

	"fulling/api"
	"fulling/eval"
	"fulling/ir"
)

// chains are operations that continue a state and a value, by one more dependency.
func chains() map[string]func(b *builder, s, v int) (int, int) {
	return map[string]func(b *builder, s, v int) (int, int){
		"sums":        func(b *builder, s, v int) (int, int) { return s, b.add(v, b.param(0)) },
		"complements": func(b *builder, s, v int) (int, int) { return s, b.put(api.OpNot, 0, v) },
		"choices":     func(b *builder, s, v int) (int, int) { return s, b.choose(b.param(0), v, b.param(0)) },
		"conditions":  func(b *builder, s, v int) (int, int) { return s, b.choose(v, b.param(0), v) },
		"loads": func(b *builder, s, v int) (int, int) {
			return s, b.load(arrayX, entry, v)
		},
		"outputs":           func(b *builder, s, v int) (int, int) { return b.output(s, v), v },
		"guards":            func(b *builder, s, v int) (int, int) { return b.guard(int64(len(b.nodes)), s, v), v },
		"stores":            func(b *builder, s, v int) (int, int) { return b.store(arrayX, s, b.constant(0), v), v },
		"choices of states": func(b *builder, s, v int) (int, int) { return b.choose(v, s, entry), v },
		"states and values": func(b *builder, s, v int) (int, int) {
			s = b.store(arrayX, b.output(s, v), b.constant(0), v)
			return s, b.add(b.load(arrayX, s, b.constant(0)), b.constant(1))
		},
	}
}

// recursive makes a function f that, as long as its parameter is not 0, calls itself with the parameter less 1, in the midst of a chain
// that makes the graph as large as possible. It returns 0 at last, and one more than the called function otherwise.
func recursive(chain func(b *builder, s, v int) (int, int)) api.Unit {
	b := newBuilder()
	a, zero, one := b.param(0), b.constant(0), b.constant(1)
	next := b.put(api.OpSub, 0, a, one)
	s, v := entry, a
	half := false
	var called, result int
	for len(b.nodes) < api.MaxNodes-12 {
		if !half && len(b.nodes) > api.MaxNodes/2 {
			// The argument and the result of the call depend on both halves.
			half = true
			none := b.put(api.OpSub, 0, v, v)
			called = b.call(functionF, s, b.add(next, none))
			result = b.add(b.callResult(called), one)
			s, v = called, b.add(result, none)
		}
		s, v = chain(b, s, v)
	}
	value := b.choose(a, b.add(result, b.put(api.OpSub, 0, v, v)), zero)
	return unit(b.graph("f", 1, value, b.choose(a, s, entry)))
}

// Calls nested 1,000 deep, with dependencies as deep as a graph permits in each activation
func TestDeepestCalls(t *testing.T) {
	for what, chain := range chains() {
		u := recursive(chain)
		if !ir.Valid(u) || len(u.Funcs[0].Nodes) < api.MaxNodes-15 {
			t.Fatalf("%s: the unit is not as intended: %s", what, excerpt(u))
		}
		got := eval.Run(u, "f", []int64{api.MaxFuel}, api.MaxFuel)
		if got.Kind != api.Returned || got.Value != api.MaxFuel {
			t.Errorf("%s: the outcome is %s", what, excerpt(got))
		}
		if got := eval.Run(u, "f", []int64{api.MaxFuel + 1}, api.MaxFuel); got.Kind != api.OutOfFuel {
			t.Errorf("%s: without enough fuel, the outcome is %s", what, excerpt(got))
		}
	}
}

// Dependencies 2,000 deep: all nodes of a graph are in one chain.
func TestDeepestDependencies(t *testing.T) {
	for what, next := range map[string]func(b *builder, v int) int{
		"negations": func(b *builder, v int) int { return b.put(api.OpNeg, 0, v) },
		"outputs":   func(b *builder, v int) int { return b.callResult(b.output(entry, v)) },
		"stores":    func(b *builder, v int) int { return b.load(arrayX, b.store(arrayY, entry, v, v), v) },
		"selections": func(b *builder, v int) int {
			s := b.nodes[v].Kids[0]
			return b.callResult(b.choose(v, entry, s))
		},
		"calls": func(b *builder, v int) int { return b.callResult(b.call(functionG, entry, v)) },
	} {
		b := newBuilder()
		v := b.callResult(entry)
		for len(b.nodes) < api.MaxNodes-1 {
			v = next(b, v)
		}
		b.check(t, what, v, entry, 1, returned(0))
	}
}

// Calls in the deepest loops, as deep as the fuel permits
func TestDeepestCallsInLoops(t *testing.T) {
	b := newBuilder()
	a, zero, one := b.param(0), b.constant(0), b.constant(1)
	// Each loop starts with the fuel of the entry, so that a call uses the tick of the innermost loop and its own only.
	innermost := int64(api.MaxLoops - 1)
	state := b.call(functionF, b.loopVar(innermost, 0), b.put(api.OpSub, 0, a, one))
	value := b.add(b.callResult(state), one)
	for number := innermost; number > 0; number-- {
		loop := b.loop(number, []int{entry, b.loopVar(number-1, 1)}, zero, state, value)
		state, value = b.loopVar(number-1, 0), b.loopResult(1, loop)
	}
	value = b.choose(a, b.loopResult(1, b.loop(0, []int{entry, zero}, zero, state, value)), zero)
	b.check(t, "calls in loops", value, entry, api.MaxFuel, returned(api.MaxFuel/2), api.MaxFuel/2)
	b.check(t, "calls in loops without enough fuel", value, entry, api.MaxFuel, returned(api.MaxFuel/2), api.MaxFuel)
}

// R1: graphs of nodes that are not valid, for functions that are run and for others
func TestChangedUnits(t *testing.T) {
	valid, zero := 0, 0
	for seed := range uint64(3000) {
		g := newGraphMaker(seed)
		u := g.makeUnit()
		args := g.arguments()
		for range 1 + g.random.IntN(3) {
			change(g, &u)
		}
		if _, ok := safelyExpected(u, args); !ok {
			continue
		}
		got := eval.Run(u, "f", args, 2)
		if ir.Valid(u) && len(args) == u.Funcs[0].Params && u.Funcs[0].Name == "f" {
			valid++
		} else if zero++; !same(got, api.Outcome{}) {
			t.Errorf("seed %d: the outcome of %s is %s", seed, excerpt(u), excerpt(got))
		}
	}
	if valid < 300 || zero < 300 {
		t.Errorf("%d units are valid, %d runs have the zero Outcome", valid, zero)
	}
}

// safelyExpected is expected, with true for units that are not valid. Units that take many steps are left out, whether or not they end.
func safelyExpected(u api.Unit, args []int64) (api.Outcome, bool) {
	if !ir.Valid(u) || len(args) != u.Funcs[0].Params {
		return api.Outcome{}, true
	}
	return expected(u, args, 2)
}

// change changes something in a unit.
func change(g *graphMaker, u *api.Unit) {
	f := &u.Funcs[g.random.IntN(len(u.Funcs))]
	n := &f.Nodes[g.random.IntN(len(f.Nodes))]
	numbers := []int{0, 1, 2, 3, -1, len(f.Nodes) - 1, len(f.Nodes), math.MaxInt, math.MinInt}
	switch g.random.IntN(8) {
	case 0:
		n.Op = pick(g, []int{n.Op - 1, n.Op + 1, 0, -1, api.OpLoop + 1, math.MaxInt, math.MinInt})
	case 1:
		n.Imm = pick(g, []int64{n.Imm - 1, n.Imm + 1, 0, -1, math.MaxInt64, math.MinInt64})
	case 2, 3, 4:
		if len(n.Kids) > 0 {
			n.Kids[g.random.IntN(len(n.Kids))] = pick(g, numbers)
		}
	case 5:
		n.Kids = append(n.Kids, pick(g, numbers))
	case 6:
		f.Value = pick(g, numbers)
	case 7:
		f.State = pick(g, numbers)
	}
}

// R1: lists of arbitrary nodes
func TestValueOfArbitraryNodes(t *testing.T) {
	found := 0
	for seed := range uint64(20000) {
		g := newGraphMaker(seed)
		var l []api.Node
		for i := range 1 + g.random.IntN(12) {
			n := node(g.random.IntN(api.OpLoop+3)-1, pick(g, []int64{0, 0, 0, 1, -1, 16, math.MaxInt64}))
			for range g.random.IntN(4) {
				n.Kids = append(n.Kids, g.random.IntN(i+2)-g.random.IntN(2))
			}
			l = append(l, n)
		}
		for i := -1; i <= len(l); i++ {
			if _, ok := eval.Value(l, i, []int64{5, 6}); ok {
				found++
			}
		}
	}
	if found < 1000 {
		t.Errorf("there are only %d values", found)
	}
}

// R2: a nil slice and an empty slice are equivalent.
func TestEmptySlices(t *testing.T) {
	u := api.Unit{Arrays: []api.Array{}, Funcs: []api.Graph{{Name: "f", Nodes: []api.Node{{Op: api.OpEntry, Kids: []int{}}, {Op: api.OpConst, Imm: 3, Kids: []int{}}}, Value: 1}}}
	for _, args := range [][]int64{nil, {}} {
		if got := eval.Run(u, "f", args, 0); !same(got, returned(3)) {
			t.Errorf("the outcome is %v", got)
		}
		if v, ok := eval.Value(u.Funcs[0].Nodes, 1, args); v != 3 || !ok {
			t.Errorf("Value returns %d and %t", v, ok)
		}
	}
}

// roomy copies a slice so that it has unused capacity, which holds copies of an element.
func roomy[T any](l []T) []T {
	copied := slices.Clone(l)
	if len(l) > 0 {
		copied = append(copied, l[0], l[0])
	}
	return copied[:len(l)]
}

// roomyUnit is a copy of a unit with unused capacity in all slices.
func roomyUnit(u api.Unit) api.Unit {
	u.Arrays, u.Funcs = roomy(u.Arrays), roomy(u.Funcs)
	for i := range u.Funcs {
		nodes := roomy(u.Funcs[i].Nodes)
		for j := range nodes {
			nodes[j].Kids = roomy(nodes[j].Kids)
		}
		u.Funcs[i].Nodes = nodes
	}
	return u
}

// unusedUnit makes the unused capacity of all slices a part of them.
func unusedUnit(u api.Unit) api.Unit {
	u.Arrays, u.Funcs = u.Arrays[:cap(u.Arrays)], slices.Clone(u.Funcs[:cap(u.Funcs)])
	for i := range u.Funcs {
		nodes := slices.Clone(u.Funcs[i].Nodes[:cap(u.Funcs[i].Nodes)])
		for j := range nodes {
			nodes[j].Kids = nodes[j].Kids[:cap(nodes[j].Kids)]
		}
		u.Funcs[i].Nodes = nodes
	}
	return u
}

// R2, R4
func TestArgumentsAreNotChanged(t *testing.T) {
	for seed := range uint64(400) {
		g := newGraphMaker(seed)
		u := g.makeUnit()
		args := g.arguments()
		if _, ok := expected(u, args, 3); !ok {
			continue
		}
		used, kept, usedArgs, keptArgs := roomyUnit(u), roomyUnit(u), roomy(args), roomy(args)
		first, second, other := eval.Run(used, "f", usedArgs, 3), eval.Run(used, "f", usedArgs, 3), eval.Run(u, "f", args, 3)
		if !reflect.DeepEqual(first, second) || !reflect.DeepEqual(first, other) {
			t.Errorf("seed %d: different outcomes", seed)
		}
		if first.Kind != api.Returned && first.Value != 0 || first.Kind != api.Trapped && first.Code != 0 {
			t.Errorf("seed %d: the outcome %v has fields that its kind does not use", seed, first)
		}
		if len(first.Out) > 0 {
			first.Out[0]++
			if !reflect.DeepEqual(second, other) {
				t.Errorf("seed %d: outcomes share memory", seed)
			}
		}
		for i := range used.Funcs[0].Nodes {
			eval.Value(used.Funcs[0].Nodes, i, usedArgs)
		}
		if !reflect.DeepEqual(unusedUnit(used), unusedUnit(kept)) || !slices.Equal(usedArgs[:cap(usedArgs)], keptArgs[:cap(keptArgs)]) {
			t.Errorf("seed %d: the arguments are changed", seed)
		}
	}
}

// R1: the largest graphs and the longest runs
func TestLargestRuns(t *testing.T) {
	// One loop with 1,900 outputs in each of as many iterations as there is fuel
	b := newBuilder()
	s, i := b.loopVar(0, 0), b.loopVar(0, 1)
	for range 1900 {
		s = b.output(s, i)
	}
	loop := b.loop(0, []int{entry, b.constant(0)}, b.constant(1), s, b.add(i, b.constant(1)))
	got := eval.Run(unit(b.graph("f", 0, 1, b.loopResult(0, loop))), "f", nil, api.MaxFuel)
	if got.Kind != 0 {
		t.Errorf("a state as value is accepted")
	}
	got = eval.Run(unit(b.graph("f", 0, b.loopResult(1, loop), b.loopResult(0, loop))), "f", nil, api.MaxFuel)
	if got.Kind != api.OutOfFuel || len(got.Out) != 1900*api.MaxFuel || got.Out[1900*500-1] != 499 || got.Out[1900*500] != 500 {
		t.Errorf("the outcome is %s", excerpt(got))
	}
	// All functions with as many nodes as possible
	u := api.Unit{}
	for f := range int64(api.MaxFuncs) {
		b := newBuilder()
		s, v := entry, b.constant(f)
		for len(b.nodes) < api.MaxNodes-10 {
			v = b.add(v, v)
			s = b.output(s, v)
		}
		s = b.call((f+1)%api.MaxFuncs, s)
		u.Funcs = append(u.Funcs, b.graph(fmt.Sprint("f", f), 0, v, s))
	}
	u.Funcs[0].Name = "f"
	if got := eval.Run(u, "f", nil, api.MaxFuel); got.Kind != api.OutOfFuel || len(got.Out) < 900*api.MaxFuel {
		t.Errorf("the outcome is %s", excerpt(got))
	}
}
