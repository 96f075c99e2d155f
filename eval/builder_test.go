package eval_test

import (
	"fmt"
	"math"
	"slices"
	"testing"

	"fulling/api"
	"fulling/eval"
	"fulling/ir"
)

const smallest = math.MinInt64

func node(op int, imm int64, kids ...int) api.Node {
	return api.Node{Op: op, Imm: imm, Kids: kids}
}

// builder makes the nodes of a graph, no two of which are identical.
type builder struct {
	nodes []api.Node
	known map[string]int
}

// entry is the first node of each builder.
const entry = 0

func newBuilder() *builder {
	b := &builder{known: map[string]int{}}
	b.put(api.OpEntry, 0)
	return b
}

func (b *builder) put(op int, imm int64, kids ...int) int {
	n := node(op, imm, slices.Clone(kids)...)
	text := fmt.Sprint(n)
	if i, ok := b.known[text]; ok {
		return i
	}
	b.known[text] = len(b.nodes)
	b.nodes = append(b.nodes, n)
	return len(b.nodes) - 1
}

func (b *builder) constant(n int64) int { return b.put(api.OpConst, n) }

func (b *builder) param(i int64) int { return b.put(api.OpParam, i) }

func (b *builder) loopVar(loop, number int64) int { return b.put(api.OpLoopVar, 16*loop+number) }

func (b *builder) add(x, y int) int { return b.put(api.OpAdd, 0, x, y) }

func (b *builder) choose(condition, x, y int) int { return b.put(api.OpSelect, 0, condition, x, y) }

func (b *builder) guard(code int64, s, v int) int { return b.put(api.OpGuard, code, s, v) }

func (b *builder) output(s, v int) int { return b.put(api.OpOutput, 0, s, v) }

func (b *builder) load(array int64, s, at int) int { return b.put(api.OpLoad, array, s, at) }

func (b *builder) store(array int64, s, at, cell int) int {
	return b.put(api.OpStore, array, s, at, cell)
}

func (b *builder) call(f int64, s int, args ...int) int {
	return b.put(api.OpCall, f, append([]int{s}, args...)...)
}

func (b *builder) callResult(s int) int { return b.put(api.OpCallResult, 0, s) }

// loop puts an OpLoop. Its next values are as many as its initial values.
func (b *builder) loop(number int64, initial []int, condition int, next ...int) int {
	return b.put(api.OpLoop, number, slices.Concat(initial, []int{condition}, next)...)
}

func (b *builder) loopResult(number int64, loop int) int {
	return b.put(api.OpLoopResult, number, loop)
}

// graph has a name and a number of parameters, and the results of the nodes made so far.
func (b *builder) graph(name string, params, value, state int) api.Graph {
	return api.Graph{Name: name, Params: params, Nodes: slices.Clone(b.nodes), Value: value, State: state}
}

// The arrays and functions that the units of unit have.
const (
	arrayX, lengthOfX = 0, 2
	arrayY, lengthOfY = 1, 3

	// functionF has the graph of the test.
	functionF = 0
	// functionG has one parameter. It traps with trapOfG for 0. Otherwise it outputs it, adds it to cell 0 of arrayX and returns the cell.
	functionG, trapOfG = 1, 9
	// functionH has no parameter. It stores 7 in cell 1 of arrayX, traps with trapOfH and returns 5.
	functionH, trapOfH = 2, 8
)

func graphOfG() api.Graph {
	b := newBuilder()
	zero, a := b.constant(0), b.param(0)
	s := b.output(b.guard(trapOfG, entry, a), a)
	sum := b.add(b.load(arrayX, s, zero), a)
	return b.graph("g", 1, sum, b.store(arrayX, s, zero, sum))
}

func graphOfH() api.Graph {
	b := newBuilder()
	s := b.store(arrayX, entry, b.constant(1), b.constant(7))
	return b.graph("h", 0, b.constant(5), b.guard(trapOfH, s, b.constant(0)))
}

// unit has the graph of a function f, and the functions g and h.
func unit(f api.Graph) api.Unit {
	return api.Unit{
		Arrays: []api.Array{{Name: "x", Len: lengthOfX}, {Name: "y", Len: lengthOfY}},
		Funcs:  []api.Graph{f, graphOfG(), graphOfH()},
	}
}

func returned(value int64, out ...int64) api.Outcome {
	return api.Outcome{Kind: api.Returned, Value: value, Out: out}
}

func trapped(code int, out ...int64) api.Outcome {
	return api.Outcome{Kind: api.Trapped, Code: code, Out: out}
}

func outOfFuel(out ...int64) api.Outcome {
	return api.Outcome{Kind: api.OutOfFuel, Out: out}
}

// same compares outcomes; a nil slice and an empty slice are the same.
func same(a, b api.Outcome) bool {
	return a.Kind == b.Kind && a.Code == b.Code && a.Value == b.Value && slices.Equal(a.Out, b.Out)
}

// excerpt shortens a text for a message.
func excerpt(what any) string {
	s := fmt.Sprint(what)
	if len(s) <= 1500 {
		return s
	}
	return s[:1500] + ".."
}

// checkUnit checks a run of function f.
func checkUnit(t *testing.T, what string, u api.Unit, fuel int, want api.Outcome, args ...int64) {
	t.Helper()
	if got := eval.Run(u, "f", args, fuel); !same(got, want) {
		t.Errorf("%s: with %v and fuel %d, the outcome is %s, not %s", what, args, fuel, excerpt(got), excerpt(want))
	}
}

// check runs a function f that has these results, and as many parameters as there are arguments.
func (b *builder) check(t *testing.T, what string, value, state, fuel int, want api.Outcome, args ...int64) {
	t.Helper()
	u := unit(b.graph("f", len(args), value, state))
	if !ir.Valid(u) {
		t.Fatalf("%s: the unit is not valid: %s", what, excerpt(u))
	}
	checkUnit(t, what, u, fuel, want, args...)
}

// checkValue checks a value in a run that does not trap and has no output.
func (b *builder) checkValue(t *testing.T, what string, value int, want int64, args ...int64) {
	t.Helper()
	b.check(t, what, value, entry, 10, returned(want), args...)
}
