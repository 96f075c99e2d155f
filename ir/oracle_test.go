package ir_test

import (
	"fmt"
	"math"
	"regexp"
	"strings"

	"fulling/api"
)

// This file decides everything a second time: sorts by regular expressions over the sorts of operands,
// dependence on loops by paths to the loops' variables, and names by a list of characters.

// letters are the sorts as they appear in regular expressions.
const letters = "-vsl"

// operandPattern describes the operands of an operation; the letter after the colon is its sort, or ? if it is that of the last operand.
func operandPattern(op int) string {
	switch {
	case op >= api.OpAdd && op <= api.OpLtu:
		return "vv:v"
	case op == api.OpCall:
		return fmt.Sprintf("sv{0,%d}:s", api.MaxParams)
	case op == api.OpLoop:
		var alternatives []string
		for k := range api.MaxVars {
			alternatives = append(alternatives, fmt.Sprintf("sv{%d}vsv{%d}", k, k))
		}
		return "(" + strings.Join(alternatives, "|") + "):l"
	}
	return map[int]string{
		api.OpConst: ":v", api.OpParam: ":v", api.OpLoopVar: ":#", api.OpNeg: "v:v", api.OpNot: "v:v", api.OpSelect: "v(vv|ss):?", api.OpLoad: "sv:v",
		api.OpCallResult: "s:v", api.OpLoopResult: "l:#", api.OpEntry: ":s", api.OpGuard: "sv:s", api.OpStore: "svv:s", api.OpOutput: "sv:s",
	}[op]
}

// immediates returns the number of immediate operands from first on that an operation may have, or -1 for all of them.
func immediates(l []api.Node, n api.Node) (first, count int64) {
	switch n.Op {
	case api.OpConst:
		return math.MinInt64, -1
	case api.OpParam:
		return 0, 6
	case api.OpLoopVar:
		return 0, 256
	case api.OpLoad, api.OpStore:
		return 0, 4
	case api.OpGuard:
		return 1, 1000016
	case api.OpCall:
		return 0, 8
	case api.OpLoop:
		return 0, 16
	case api.OpLoopResult:
		return 0, int64(len(l[n.Kids[0]].Kids)-1) / 2
	}
	return 0, 1
}

// oracle decides what is true of a list of nodes.
type oracle struct {
	nodes []api.Node
	sorts []int
}

// compiled has the regular expressions that have been used.
var compiled = map[string]*regexp.Regexp{}

func matches(pattern, text string) bool {
	if compiled[pattern] == nil {
		compiled[pattern] = regexp.MustCompile("^" + pattern + "$")
	}
	return compiled[pattern].MatchString(text)
}

func newOracle(l []api.Node) oracle {
	o := oracle{nodes: l}
	for i := range l {
		o.sorts = append(o.sorts, o.sort(i))
	}
	return o
}

// sort needs the sorts of the earlier nodes.
func (o oracle) sort(i int) int {
	n := o.nodes[i]
	var operands []byte
	for _, kid := range n.Kids {
		if kid < 0 || kid >= i {
			return malformed
		}
		operands = append(operands, letters[o.sorts[kid]])
	}
	pattern, result, known := strings.Cut(operandPattern(n.Op), ":")
	if !known || !matches(pattern, string(operands)) {
		return malformed
	}
	if first, count := immediates(o.nodes, n); count >= 0 && (n.Imm < first || n.Imm-first >= count) {
		return malformed
	}
	switch result {
	case "?":
		return strings.IndexByte(letters, operands[2])
	case "#":
		if n.Imm&15 == 0 {
			return state
		}
		return value
	}
	return strings.Index(letters, result)
}

// uses returns the nodes that node i uses, with node i.
func (o oracle) uses(i int) map[int]bool {
	found := map[int]bool{i: true}
	for more := true; more; {
		more = false
		for j := range found {
			for _, kid := range o.nodes[j].Kids {
				if !found[kid] {
					found[kid], more = true, true
					break
				}
			}
			if more {
				break
			}
		}
	}
	return found
}

// place is a node inside some loops, which are a set of bits.
type place struct{ node, inside int }

// isClosed reports whether the value of node i is defined outside of all loops: whatever variable it reaches belongs to a loop on the way.
func (o oracle) isClosed(i int) bool {
	seen := map[place]bool{}
	pending := []place{{i, 0}}
	for len(pending) > 0 {
		p := pending[len(pending)-1]
		pending = pending[:len(pending)-1]
		if seen[p] {
			continue
		}
		seen[p] = true
		n := o.nodes[p.node]
		if n.Op == api.OpLoopVar && p.inside>>(n.Imm>>4)&1 == 0 {
			return false
		}
		for at, kid := range n.Kids {
			inside := p.inside
			if n.Op == api.OpLoop && at*2+1 >= len(n.Kids) {
				inside |= 1 << n.Imm
			}
			pending = append(pending, place{kid, inside})
		}
	}
	return true
}

func isGoodName(name string) bool {
	for _, word := range []string{"array", "func", "var", "return", "if", "else", "while", "out", "trap"} {
		if name == word {
			return false
		}
	}
	const characters = "abcdefghijklmnopqrstuvwxyzABCDEFGHIJKLMNOPQRSTUVWXYZ_0123456789"
	return len(name) >= 1 && len(name) <= 16 && strings.Trim(name, characters) == "" && !strings.ContainsAny(name[:1], "0123456789")
}

// flaws returns what is wrong with a unit.
func flaws(u api.Unit) []string {
	found := map[string]bool{"arrays": len(u.Arrays) > 4, "functions": len(u.Funcs) > 8}
	names := map[string]int{}
	for _, a := range u.Arrays {
		names["array "+a.Name]++
		found["array name"] = found["array name"] || !isGoodName(a.Name)
		found["length"] = found["length"] || a.Len < 1 || a.Len > 16
	}
	for _, g := range u.Funcs {
		names["function "+g.Name]++
		found["function name"] = found["function name"] || !isGoodName(g.Name)
		for _, flaw := range graphFlaws(u, g) {
			found[flaw] = true
		}
	}
	for _, count := range names {
		found["equal names"] = found["equal names"] || count > 1
	}
	var list []string
	for flaw, applies := range found {
		if applies {
			list = append(list, flaw)
		}
	}
	return list
}

func graphFlaws(u api.Unit, g api.Graph) []string {
	o := newOracle(g.Nodes)
	for _, s := range o.sorts {
		if s == malformed {
			return []string{"malformed node"}
		}
	}
	list := o.nodeFlaws(u, g)
	if g.Params < 0 || g.Params > 6 {
		list = append(list, "parameters")
	}
	if len(g.Nodes) > 2000 {
		list = append(list, "nodes")
	}
	for _, result := range []struct{ node, sort int }{{g.Value, value}, {g.State, state}} {
		switch {
		case result.node < 0 || result.node >= len(g.Nodes):
			list = append(list, "no result")
		case o.sorts[result.node] != result.sort:
			list = append(list, "sort of result")
		case !o.isClosed(result.node):
			list = append(list, "result depends on loop")
		}
	}
	return list
}

func (o oracle) nodeFlaws(u api.Unit, g api.Graph) []string {
	var list []string
	seen := map[string]bool{}
	for _, n := range g.Nodes {
		text := fmt.Sprint(n)
		if seen[text] {
			list = append(list, "identical nodes")
		}
		seen[text] = true
		switch {
		case n.Op == api.OpParam && n.Imm >= int64(g.Params):
			list = append(list, "parameter")
		case (n.Op == api.OpLoad || n.Op == api.OpStore) && n.Imm >= int64(len(u.Arrays)):
			list = append(list, "array")
		case n.Op == api.OpCall && n.Imm >= int64(len(u.Funcs)):
			list = append(list, "function")
		case n.Op == api.OpCall && len(n.Kids) != 1+u.Funcs[n.Imm].Params:
			list = append(list, "arguments")
		}
		for _, m := range g.Nodes {
			if m.Op != api.OpLoop {
				continue
			}
			switch {
			case n.Op == api.OpLoop && m.Imm == n.Imm && fmt.Sprint(m) != text:
				list = append(list, "loop number")
			case n.Op == api.OpLoopVar && n.Imm>>4 == m.Imm && int(n.Imm&15)*2+1 >= len(m.Kids):
				list = append(list, "loop variable")
			}
		}
	}
	return list
}
