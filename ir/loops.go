package ir

import "fulling/api"

// hasConsistentLoops reports whether the loops of well-formed nodes have different numbers and have all variables that OpLoopVar nodes name.
// An OpLoopVar may name any variable of a loop that does not exist.
func hasConsistentLoops(l []api.Node) bool {
	var variables [api.MaxLoops]int
	for _, n := range l {
		if n.Op != api.OpLoop {
			continue
		}
		if variables[n.Imm] != 0 {
			return false
		}
		variables[n.Imm] = variableCount(n)
	}
	for _, n := range l {
		if n.Op != api.OpLoopVar {
			continue
		}
		count := variables[n.Imm/loopVarStride]
		if count != 0 && n.Imm%loopVarStride >= int64(count) {
			return false
		}
	}
	return true
}

// loopSet has bit n if it contains loop n.
type loopSet uint

// loopsOfAll returns, for each of these well-formed nodes, the loops on which it depends.
func loopsOfAll(l []api.Node) []loopSet {
	loops := make([]loopSet, len(l))
	for i, n := range l {
		switch n.Op {
		case api.OpLoopVar:
			loops[i] = 1 << (n.Imm / loopVarStride)
		case api.OpLoop:
			initial, repeated := n.Kids[:variableCount(n)], n.Kids[variableCount(n):]
			// A loop defines its own variables for its condition and next values, but not for its initial values.
			loops[i] = union(loops, initial) | union(loops, repeated)&^(1<<n.Imm)
		default:
			loops[i] = union(loops, n.Kids)
		}
	}
	return loops
}

func union(loops []loopSet, nodes []int) loopSet {
	var all loopSet
	for _, i := range nodes {
		all |= loops[i]
	}
	return all
}
