package eval_test

import (
	"fmt"
	"math"
	"testing"

	"fulling/api"
	"fulling/eval"
	"fulling/ir"
	"fulling/word"
)

func checkNode(t *testing.T, what string, l []api.Node, i int, want int64, wantOK bool, args ...int64) {
	t.Helper()
	if got, ok := eval.Value(l, i, args); got != want || ok != wantOK {
		t.Errorf("%s: Value of node %d of %s with %v returns %d and %t, not %d and %t", what, i, excerpt(l), args, got, ok, want, wantOK)
	}
}

// 9.5
func TestValueOfOperations(t *testing.T) {
	b := newBuilder()
	x, y := b.param(0), b.param(1)
	first := len(b.nodes)
	for op := api.OpAdd; op <= api.OpLtu; op++ {
		b.put(op, 0, x, y)
	}
	b.put(api.OpNeg, 0, x)
	b.put(api.OpNot, 0, x)
	b.choose(x, y, x)
	for _, m := range words {
		checkNode(t, "constant", []api.Node{node(api.OpConst, m)}, 0, m, true)
		for _, n := range words {
			for op := api.OpAdd; op <= api.OpLtu; op++ {
				checkNode(t, "operation", b.nodes, first+op-api.OpAdd, word.Binary(op, m, n), true, m, n)
			}
			checkNode(t, "negation", b.nodes, first+api.OpNeg-api.OpAdd, -m, true, m, n)
			checkNode(t, "complement", b.nodes, first+api.OpNot-api.OpAdd, ^m, true, m, n)
			want := n
			if m == 0 {
				want = 0
			}
			checkNode(t, "selection", b.nodes, first+api.OpSelect-api.OpAdd, want, true, m, n)
		}
	}
}

// 9.5: a parameter needs an argument, even if its value does not matter; further arguments do not matter.
func TestValueOfParameters(t *testing.T) {
	for i := range api.MaxParams {
		l := []api.Node{node(api.OpParam, int64(i)), node(api.OpConst, 1), node(api.OpSelect, 0, 1, 1, 0), node(api.OpMul, 0, 0, 0)}
		var args []int64
		for n := range 10 {
			ok := n > i
			want := int64(0)
			if ok {
				want = args[i]
				checkNode(t, "selection", l, 2, 1, true, args...)
			} else {
				checkNode(t, "selection", l, 2, 0, false, args...)
			}
			checkNode(t, "parameter", l, 0, want, ok, args...)
			checkNode(t, "square", l, 3, want*want, ok, args...)
			args = append(args, int64(100+n))
		}
	}
	checkNode(t, "no parameter", []api.Node{node(api.OpParam, api.MaxParams)}, 0, 0, false, make([]int64, 10)...)
	checkNode(t, "no parameter", []api.Node{node(api.OpParam, -1)}, 0, 0, false, make([]int64, 10)...)
}

// 9.5: every operation that is not listed, and every node that depends on one
func TestValueOfOtherOperations(t *testing.T) {
	l := []api.Node{
		node(api.OpConst, 3), node(api.OpEntry, 0), node(api.OpLoopVar, 1), node(api.OpLoopVar, 0), node(api.OpLoad, 0, 1, 0), node(api.OpCallResult, 0, 1),
		node(api.OpLoop, 0, 1, 0, 0, 3, 2), node(api.OpLoopResult, 1, 6), node(api.OpLoopResult, 0, 6), node(api.OpGuard, 1, 1, 0), node(api.OpStore, 0, 1, 0, 0),
		node(api.OpOutput, 0, 1, 0), node(api.OpCall, 0, 1), node(api.OpSelect, 0, 0, 1, 11),
	}
	checkNode(t, "constant", l, 0, 3, true)
	for i, n := range l[1:] {
		sort := ir.Sort(l, 1+i)
		if sort == 0 {
			t.Errorf("node %v is malformed", n)
		}
		checkNode(t, fmt.Sprint("operation ", n.Op), l, 1+i, 0, false)
		if sort != 1 {
			continue
		}
		for _, user := range []api.Node{node(api.OpAdd, 0, 0, 1+i), node(api.OpAdd, 0, 1+i, 0), node(api.OpNeg, 0, 1+i), node(api.OpSelect, 0, 1+i, 0, 0), node(api.OpSelect, 0, 0, 1+i, 0), node(api.OpSelect, 0, 0, 0, 1+i)} {
			used := append(l[:len(l):len(l)], user, node(api.OpNot, 0, len(l)))
			checkNode(t, fmt.Sprint("user of operation ", n.Op), used, len(l), 0, false)
			checkNode(t, fmt.Sprint("user of a user of operation ", n.Op), used, len(l)+1, 0, false)
		}
	}
}

// 9.5: malformed nodes and indices of no node; what is not used does not matter.
func TestValueOfMalformedNodes(t *testing.T) {
	l := []api.Node{node(api.OpConst, 3), node(api.OpAdd, 0, 0), node(api.OpAdd, 0, 0, 2), node(api.OpAdd, 0, 0, -1), node(api.OpAdd, 0, 0, 9), node(api.OpNeg, 1, 0),
		node(0, 0), node(api.OpLoop+1, 0), node(math.MinInt, 0), node(math.MaxInt, 0), node(api.OpNot, 0, 1), node(api.OpNot, 0, 0), node(api.OpSelect, 0, 0, 11, 5), node(api.OpConst, 1, 0)}
	for i := range l {
		want, ok := int64(0), false
		switch i {
		case 0:
			want, ok = 3, true
		case 11:
			want, ok = -4, true
		}
		checkNode(t, "malformed", l, i, want, ok, 1)
	}
	for _, i := range []int{-1, len(l), len(l) + 1, math.MinInt, math.MaxInt, 1 << 32, -1 << 32} {
		checkNode(t, "no node", l, i, 0, false, 1)
		checkNode(t, "empty list", nil, i, 0, false, 1)
	}
	checkNode(t, "empty list", nil, 0, 0, false)
}

// 9.5: the list has no limit, and identical nodes do not matter.
func TestValueOfLongLists(t *testing.T) {
	const many = 1000000
	l := make([]api.Node, 0, many)
	l = append(l, node(api.OpParam, 0), node(api.OpConst, 1), node(api.OpConst, 1))
	for len(l) < many {
		last := len(l) - 1
		switch last % 3 {
		case 0:
			l = append(l, node(api.OpAdd, 0, last, 1))
		case 1:
			l = append(l, node(api.OpSelect, 0, 2, last, 0))
		case 2:
			l = append(l, node(api.OpSub, 0, 1, last))
		}
	}
	want := int64(1)
	for last := 2; last < many-1; last++ {
		switch last % 3 {
		case 0:
			want++
		case 2:
			want = 1 - want
		}
	}
	checkNode(t, "long list", l, many-1, want, true, 77)
	checkNode(t, "long list", l, 2, 1, true)
	// Each node uses the one before twice.
	doubled := []api.Node{node(api.OpParam, 0)}
	for i := range 5000 {
		doubled = append(doubled, node(api.OpAdd, 0, i, i))
	}
	five := int64(5)
	checkNode(t, "shared nodes", doubled, 62, five<<62, true, five)
	checkNode(t, "shared nodes", doubled, 5000, 0, true, five)
}

// 9.5: Value is that of Run, where both have one.
func TestValueAndRun(t *testing.T) {
	values := 0
	for seed := range uint64(500) {
		g := newGraphMaker(seed)
		u := g.makeUnit()
		args := g.arguments()
		f := u.Funcs[0]
		v, ok := eval.Value(f.Nodes, f.Value, args)
		for _, i := range ir.Dependencies(f.Nodes, f.Value) {
			if op := f.Nodes[i].Op; op > api.OpSelect || op == api.OpLoopVar {
				if ok {
					t.Fatalf("seed %d: there is a value for operation %d", seed, op)
				}
			}
		}
		if !ok {
			continue
		}
		values++
		u.Funcs[0].State = entry
		checkUnit(t, fmt.Sprint("seed ", seed), u, 0, returned(v), args...)
	}
	if values < 50 {
		t.Errorf("there are only %d values", values)
	}
}
