package ir

import (
	"cmp"
	"slices"

	"fulling/api"
	"fulling/checker"
)

// Valid reports whether a unit is valid.
func Valid(u api.Unit) bool {
	// The number of functions is compared here, too, because an outline of very many would be large.
	if len(u.Funcs) > api.MaxFuncs || checker.Check(outline(u)) != api.OK {
		return false
	}
	for _, g := range u.Funcs {
		if !isValidGraph(u, g) {
			return false
		}
	}
	return true
}

// outline returns a program with the unit's arrays and functions, in which nothing but their numbers, lengths and names can be wrong.
func outline(u api.Unit) api.Program {
	p := api.Program{Arrays: u.Arrays}
	for _, g := range u.Funcs {
		p.Funcs = append(p.Funcs, api.Func{Name: g.Name, Value: api.Expr{Kind: api.ExprNum}})
	}
	return p
}

func isValidGraph(u api.Unit, g api.Graph) bool {
	if g.Params < 0 || g.Params > api.MaxParams || len(g.Nodes) > api.MaxNodes {
		return false
	}
	sorts, ok := sortsOfAll(g.Nodes)
	if !ok || hasIdenticalNodes(g.Nodes) || !refersToExisting(u, g) || !hasConsistentLoops(g.Nodes) {
		return false
	}
	loops := loopsOfAll(g.Nodes)
	isResult := func(i int, s sort) bool {
		return i >= 0 && i < len(sorts) && sorts[i] == s && loops[i] == 0
	}
	return isResult(g.Value, value) && isResult(g.State, state)
}

func hasIdenticalNodes(l []api.Node) bool {
	sorted := slices.Clone(l)
	slices.SortFunc(sorted, compareNodes)
	for i := 1; i < len(sorted); i++ {
		if compareNodes(sorted[i-1], sorted[i]) == 0 {
			return true
		}
	}
	return false
}

// compareNodes orders nodes in such a way that only identical ones are equal.
func compareNodes(a, b api.Node) int {
	if c := cmp.Or(cmp.Compare(a.Op, b.Op), cmp.Compare(a.Imm, b.Imm)); c != 0 {
		return c
	}
	return slices.Compare(a.Kids, b.Kids)
}

// refersToExisting reports whether the parameters, arrays and functions that well-formed nodes name exist.
func refersToExisting(u api.Unit, g api.Graph) bool {
	for _, n := range g.Nodes {
		exists := true
		switch n.Op {
		case api.OpParam:
			exists = n.Imm < int64(g.Params)
		case api.OpLoad, api.OpStore:
			exists = n.Imm < int64(len(u.Arrays))
		case api.OpCall:
			exists = n.Imm < int64(len(u.Funcs)) && len(n.Kids)-1 == u.Funcs[n.Imm].Params
		}
		if !exists {
			return false
		}
	}
	return true
}
