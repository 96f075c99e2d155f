package ir_test

import (
	"slices"
	"testing"

	"fulling/api"
	"fulling/ir"
)

// checkNodes compares Sort and Dependencies of all nodes of a list with the oracle.
func checkNodes(t *testing.T, l []api.Node) {
	t.Helper()
	o := newOracle(l)
	for i := range l {
		if got := ir.Sort(l, i); got != o.sorts[i] {
			t.Fatalf("node %d of %v has sort %d, not %d", i, l, got, o.sorts[i])
		}
		var want []int
		if o.sorts[i] != malformed {
			for j := range o.uses(i) {
				want = append(want, j)
			}
			slices.Sort(want)
		}
		if got := ir.Dependencies(l, i); !slices.Equal(got, want) {
			t.Fatalf("Dependencies of node %d of %v are %v, not %v", i, l, got, want)
		}
	}
}

// 7.2, 7.3, 7.4
func TestGeneratedUnits(t *testing.T) {
	for seed := range uint64(1000) {
		u := newGenerator(seed).makeUnit()
		if list := flaws(u); len(list) > 0 {
			t.Fatalf("seed %d: %v", seed, list)
		}
		if !ir.Valid(u) {
			t.Fatalf("seed %d: not valid: %v", seed, u)
		}
		for _, f := range u.Funcs {
			checkNodes(t, f.Nodes)
		}
	}
}

// 7.2, 7.3, 7.4: units of which a few parts have been changed
func TestChangedUnits(t *testing.T) {
	single := map[string]int{}
	for seed := range uint64(10000) {
		g := newGenerator(seed)
		u := g.makeUnit()
		for range 1 + g.random.IntN(3) {
			g.change(&u)
		}
		list := flaws(u)
		if got := ir.Valid(u); got != (len(list) == 0) {
			t.Fatalf("seed %d: Valid returns %v for a unit with the flaws %v: %v", seed, got, list, u)
		}
		switch len(list) {
		case 0:
			single["none"]++
		case 1:
			single[list[0]]++
		}
		if seed%16 == 0 {
			for _, f := range u.Funcs {
				checkNodes(t, f.Nodes)
			}
		}
	}
	for _, flaw := range []string{
		"none", "arrays", "functions", "array name", "length", "function name", "equal names", "malformed node", "identical nodes", "parameter", "array", "function", "arguments",
		"loop number", "loop variable", "parameters", "no result", "sort of result", "result depends on loop",
	} {
		if single[flaw] < 10 {
			t.Errorf("only %d units have no other flaw than: %s", single[flaw], flaw)
		}
	}
}

// 7.2, 7.3: lists of nodes with operands of any kind
func TestRandomNodes(t *testing.T) {
	for seed := range uint64(3000) {
		g := newGenerator(seed)
		l := base()
		for range g.random.IntN(40) {
			n := node(g.random.IntN(api.OpLoop+2), pick(g, []int64{0, 0, 0, 0, 1, 2, 16, 17}))
			for range pick(g, []int{0, 1, 1, 2, 2, 2, 3, 3, 5}) {
				n.Kids = append(n.Kids, g.random.IntN(len(l)+1))
			}
			l = append(l, n)
		}
		checkNodes(t, l)
	}
}

// 7.5: whatever the evaluation of a valid unit reaches is there.
func TestValidUnitsCanBeEvaluated(t *testing.T) {
	for seed := range uint64(6000) {
		g := newGenerator(seed)
		u := g.makeUnit()
		for range g.random.IntN(3) {
			g.change(&u)
		}
		if !ir.Valid(u) {
			continue
		}
		for i, f := range u.Funcs {
			w := walk{unit: u, graph: f, seen: map[place]bool{}}
			if !w.visit(f.Value, 0) || !w.visit(f.State, 0) {
				t.Fatalf("seed %d: function %d cannot be evaluated: %v", seed, i, u)
			}
		}
	}
}

// walk visits what an evaluation might visit.
type walk struct {
	unit  api.Unit
	graph api.Graph
	seen  map[place]bool
}

// visit returns false if a node is missing what its evaluation needs. The bits of inside are the loops that are being evaluated.
func (w walk) visit(i, inside int) bool {
	if i < 0 || i >= len(w.graph.Nodes) {
		return false
	}
	if w.seen[place{i, inside}] {
		return true
	}
	w.seen[place{i, inside}] = true
	n := w.graph.Nodes[i]
	if !w.hasImmediate(n, inside) {
		return false
	}
	for at, kid := range n.Kids {
		within := inside
		if n.Op == api.OpLoop && at >= len(n.Kids)/2 {
			within |= 1 << n.Imm
		}
		if kid >= i || !w.visit(kid, within) {
			return false
		}
	}
	return true
}

// hasImmediate reports whether that exists to which a node refers.
func (w walk) hasImmediate(n api.Node, inside int) bool {
	switch n.Op {
	case api.OpParam:
		return n.Imm >= 0 && n.Imm < int64(w.graph.Params)
	case api.OpLoad, api.OpStore:
		return n.Imm >= 0 && n.Imm < int64(len(w.unit.Arrays))
	case api.OpCall:
		return n.Imm >= 0 && n.Imm < int64(len(w.unit.Funcs)) && w.unit.Funcs[n.Imm].Params == len(n.Kids)-1
	case api.OpLoopVar:
		return n.Imm >= 0 && inside>>(n.Imm/16)&1 == 1 && w.loopHas(n.Imm/16, n.Imm%16)
	case api.OpLoopResult:
		l := w.graph.Nodes[n.Kids[0]]
		return l.Op == api.OpLoop && n.Imm >= 0 && int(n.Imm) < len(l.Kids)/2
	}
	return n.Op >= api.OpConst && n.Op <= api.OpLoop
}

func (w walk) loopHas(number, variable int64) bool {
	return slices.ContainsFunc(w.graph.Nodes, func(n api.Node) bool {
		return n.Op == api.OpLoop && n.Imm == number && int(variable) < len(n.Kids)/2
	})
}
