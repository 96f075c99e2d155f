package ir_test

import (
	"math"
	"reflect"
	"slices"
	"testing"

	"fulling/api"
	"fulling/ir"
)

// R1: lists much longer than those of valid units, in which each node uses the one before
func TestLongChains(t *testing.T) {
	const n = 1 << 20
	for _, first := range []api.Node{node(api.OpConst, 1), node(api.OpNeg, 0, 0)} {
		l := make([]api.Node, n)
		l[0] = first
		for i := 1; i < n; i++ {
			l[i] = node(api.OpAdd, 0, i-1, i-1)
		}
		sort, used := value, n
		if first.Op == api.OpNeg {
			sort, used = malformed, 0
		}
		if got := ir.Sort(l, n-1); got != sort {
			t.Errorf("the last node has sort %d, not %d", got, sort)
		}
		if got := ir.Dependencies(l, n-1); len(got) != used {
			t.Errorf("the last node has %d dependencies, not %d", len(got), used)
		}
		checkValid(t, "long chain", unit(api.Graph{Name: "f", Nodes: l, Value: n - 1}), false)
	}
}

// R1: many ways from each node to the earlier ones
func TestSharedOperands(t *testing.T) {
	g := graph(node(api.OpLoopVar, 1))
	for len(g.Nodes) < api.MaxNodes {
		i := len(g.Nodes) - 1
		g = add(g, node(api.OpSelect, 0, i, i, i))
	}
	last := api.MaxNodes - 1
	if ir.Sort(g.Nodes, last) != value || len(ir.Dependencies(g.Nodes, last)) != api.MaxNodes-2 {
		t.Error("shared operands")
	}
	checkValid(t, "the value depends on a loop", unit(resulting(g, last, entry)), false)
	g.Nodes[firstFree] = node(api.OpConst, 1)
	checkValid(t, "the value depends on no loop", unit(resulting(g, last, entry)), true)
}

// R1: many nodes with the same very long list of operands
func TestManyOperands(t *testing.T) {
	kids := make([]int, 1<<20)
	for op := -1; op <= api.OpLoop+1; op++ {
		l := slices.Repeat([]api.Node{node(op, 1, kids...)}, 1<<12)
		for i := range l {
			l[i].Kids = kids
			if i%64 == 0 {
				l[i] = node(api.OpConst, int64(i))
			}
		}
		for i := 0; i < len(l); i += 63 {
			want := malformed
			if i%64 == 0 {
				want = value
			}
			if got := ir.Sort(l, i); got != want {
				t.Errorf("node %d of operation %d has sort %d", i, op, got)
			}
			if got := ir.Dependencies(l, i); len(got) != want {
				t.Errorf("node %d of operation %d has the dependencies %v", i, op, got)
			}
		}
		checkValid(t, "many operands", unit(api.Graph{Name: "f", Nodes: l[:api.MaxNodes]}), false)
	}
}

// R1
func TestManyDeclarations(t *testing.T) {
	const many = 200000
	checkValid(t, "arrays", api.Unit{Arrays: slices.Repeat([]api.Array{{Name: "x", Len: 1}}, many)}, false)
	checkValid(t, "functions", api.Unit{Funcs: slices.Repeat([]api.Graph{graph()}, many)}, false)
	checkValid(t, "nodes", unit(graph(make([]api.Node, many)...)), false)
}

// R1: every operation, with every combination of extreme numbers
func TestExtremeNumbers(t *testing.T) {
	numbers := []int{math.MinInt, -1 << 32, -1, 0, 1, 2, 16, 256, math.MaxInt}
	for op := -1; op <= api.OpLoop+1; op++ {
		for _, imm := range numbers {
			for _, a := range numbers {
				for _, b := range numbers {
					n := node(op, int64(imm), a, b, a)
					for count := range len(n.Kids) + 1 {
						checkExtreme(t, node(op, int64(imm), n.Kids[:count]...))
					}
				}
			}
		}
	}
}

// checkExtreme examines a node after two others, and a function whose parameters and results are numbers of that node.
func checkExtreme(t *testing.T, n api.Node) {
	t.Helper()
	g := graph(n)
	want := newOracle(g.Nodes).sorts[firstFree]
	if got := ir.Sort(g.Nodes, firstFree); got != want {
		t.Errorf("%v has sort %d, not %d", n, got, want)
	}
	if got := ir.Dependencies(g.Nodes, firstFree); (got == nil) != (want == malformed) {
		t.Errorf("%v has the dependencies %v", n, got)
	}
	if len(n.Kids) > 1 {
		g.Params, g.Value, g.State = int(n.Imm), n.Kids[0], n.Kids[1]
	}
	u := unit(g)
	checkValid(t, "extreme numbers", u, len(flaws(u)) == 0)
}

// R2: a nil slice and an empty slice are equivalent.
func TestEmptySlices(t *testing.T) {
	for _, n := range []api.Node{node(api.OpConst, 5), node(api.OpParam, 0), node(api.OpLoopVar, 16), node(api.OpEntry, 0)} {
		n.Kids = nil
		absent := ir.Sort([]api.Node{n}, 0)
		n.Kids = []int{}
		if got := ir.Sort([]api.Node{n}, 0); got != absent || got == malformed {
			t.Errorf("%v has the sorts %d and %d", n, absent, got)
		}
	}
	u := api.Unit{Arrays: []api.Array{}, Funcs: []api.Graph{}}
	checkValid(t, "empty", u, true)
	u.Funcs = append(u.Funcs, graph())
	u.Funcs[0].Nodes[zero].Kids = []int{}
	checkValid(t, "empty operands", u, true)
	u.Funcs[0].Nodes = []api.Node{}
	checkValid(t, "no nodes", u, false)
}

// roomy copies a value so that all its slices have unused capacity, which holds copies of their first elements.
func roomy(v reflect.Value) reflect.Value {
	switch v.Kind() {
	case reflect.Struct:
		copied := reflect.New(v.Type()).Elem()
		for i := range v.NumField() {
			copied.Field(i).Set(roomy(v.Field(i)))
		}
		return copied
	case reflect.Slice:
		n := v.Len()
		copied := reflect.MakeSlice(v.Type(), n+2, n+2)
		for i := range n {
			copied.Index(i).Set(roomy(v.Index(i)))
			copied.Index(n).Set(v.Index(0))
			copied.Index(n + 1).Set(v.Index(0))
		}
		return copied.Slice(0, n)
	}
	return v
}

// revealUnused makes the unused capacity of all slices a part of them.
func revealUnused(v reflect.Value) {
	switch v.Kind() {
	case reflect.Struct:
		for i := range v.NumField() {
			revealUnused(v.Field(i))
		}
	case reflect.Slice:
		for i := range v.Len() {
			revealUnused(v.Index(i))
		}
		v.SetLen(v.Cap())
	}
}

// R2, R4
func TestArgumentsAreNotChanged(t *testing.T) {
	for seed := range uint64(300) {
		g := newGenerator(seed)
		u := g.makeUnit()
		if seed%3 == 0 {
			g.change(&u)
		}
		used, kept := reflect.New(reflect.TypeFor[api.Unit]()).Elem(), reflect.New(reflect.TypeFor[api.Unit]()).Elem()
		used.Set(roomy(reflect.ValueOf(u)))
		kept.Set(roomy(reflect.ValueOf(u)))
		v := used.Interface().(api.Unit)
		if first, second := ir.Valid(v), ir.Valid(v); first != second || first != ir.Valid(u) {
			t.Errorf("seed %d: different results", seed)
		}
		for f := range v.Funcs {
			nodes := v.Funcs[f].Nodes
			for i := range nodes {
				if ir.Sort(nodes, i) != ir.Sort(u.Funcs[f].Nodes, i) || !slices.Equal(ir.Dependencies(nodes, i), ir.Dependencies(nodes, i)) {
					t.Errorf("seed %d: different results for node %d of function %d", seed, i, f)
				}
			}
		}
		revealUnused(used)
		revealUnused(kept)
		if !reflect.DeepEqual(used.Interface(), kept.Interface()) {
			t.Errorf("seed %d: an argument is changed", seed)
		}
	}
}

// R2: results share no memory with one another or with the arguments.
func TestResultsAreNew(t *testing.T) {
	l := nested().Nodes
	first := ir.Dependencies(l, 6)
	clear(first[:cap(first)])
	checkDependencies(t, l, 6, 3, 5, 6)
	if !reflect.DeepEqual(l, nested().Nodes) {
		t.Error("a change of the result changes the argument")
	}
}
