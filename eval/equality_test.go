package eval_test

import (
	"testing"

	"fulling/api"
	"fulling/eval"
	"fulling/ir"
)

// rewriter copies graphs, in which it replaces nodes by others that always have the same value, or by equal states.
type rewriter struct {
	*graphMaker
	copied *builder
	// uses counts how often each equality was used.
	uses map[string]int
}

// rewrite returns a unit that has the same outcomes.
func (r *rewriter) rewrite(u api.Unit) api.Unit {
	v := api.Unit{Arrays: u.Arrays}
	for _, f := range u.Funcs {
		r.copied = newBuilder()
		var places []int
		for i, n := range f.Nodes {
			var kids []int
			for _, kid := range n.Kids {
				kids = append(kids, places[kid])
			}
			places = append(places, r.replace(ir.Sort(f.Nodes, i), n.Op, n.Imm, kids))
		}
		v.Funcs = append(v.Funcs, r.copied.graph(f.Name, f.Params, places[f.Value], places[f.State]))
	}
	return v
}

func (r *rewriter) replace(sort, op int, imm int64, kids []int) int {
	i := -1
	if r.chance(3) {
		i = r.specialCase(op, imm, kids)
	}
	if i < 0 {
		i = r.copied.put(op, imm, kids...)
	}
	if sort == 1 && r.chance(6) {
		return r.sameValue(i)
	}
	if sort == 2 && r.chance(4) {
		return r.sameState(i)
	}
	return i
}

func (r *rewriter) use(name string, i int) int {
	r.uses[name]++
	return i
}

// sameValue returns a node with the same value as any node.
func (r *rewriter) sameValue(i int) int {
	c, zero, one := r.copied, r.copied.constant(0), r.copied.constant(1)
	switch r.random.IntN(7) {
	case 0:
		return r.use("select", c.choose(i, i, i))
	case 1:
		return r.use("select otherwise", c.choose(zero, one, i))
	case 2:
		return r.use("add 0", c.add(i, zero))
	case 3:
		return r.use("div 1", c.put(api.OpDiv, 0, i, one))
	case 4:
		return r.use("not not", c.put(api.OpNot, 0, c.put(api.OpNot, 0, i)))
	case 5:
		return r.use("neg neg", c.put(api.OpNeg, 0, c.put(api.OpNeg, 0, i)))
	}
	return r.use("sub sub", c.put(api.OpSub, 0, c.add(i, i), i))
}

// sameState returns a state that is equal to any state.
func (r *rewriter) sameState(i int) int {
	c, k, at := r.copied, r.random.Int64N(int64(len(r.unit.Arrays))), r.copied.constant(r.random.Int64N(4)-1)
	switch r.random.IntN(4) {
	case 0:
		return r.use("select of states", c.choose(at, i, i))
	case 1:
		return r.use("select of other states", c.choose(c.constant(0), c.output(i, at), i))
	case 2:
		return r.use("guard of 1", c.guard(7, i, c.constant(1)))
	}
	return r.use("store of load", c.store(k, i, at, c.load(k, i, at)))
}

// specialCase returns what is equal to a certain node, or -1.
func (r *rewriter) specialCase(op int, imm int64, kids []int) int {
	c := r.copied
	switch op {
	case api.OpAdd, api.OpMul, api.OpAnd, api.OpOr, api.OpXor, api.OpEq, api.OpNe:
		return r.use("exchanged operands", c.put(op, 0, kids[1], kids[0]))
	case api.OpGuard:
		if r.chance(2) {
			return r.use("guard twice", c.guard(1+imm%7, c.guard(imm, kids[0], kids[1]), kids[1]))
		}
		return r.beforeStore(op, imm, kids)
	case api.OpOutput:
		return r.beforeStore(op, imm, kids)
	case api.OpStore:
		return r.sameStore(imm, kids)
	case api.OpLoad:
		return r.sameLoad(imm, kids)
	case api.OpCallResult:
		return r.use("call result of a later state", c.callResult(r.sameCells(kids[0], c.constant(r.random.Int64N(2)), -1)))
	}
	return -1
}

// beforeStore exchanges a guard or an output with the store before it, which has an effect even if the state has stopped.
func (r *rewriter) beforeStore(op int, imm int64, kids []int) int {
	before := r.copied.nodes[kids[0]]
	if before.Op != api.OpStore {
		return -1
	}
	s := r.copied.put(op, imm, before.Kids[0], kids[1])
	return r.use("before a store", r.copied.store(before.Imm, s, before.Kids[1], before.Kids[2]))
}

func (r *rewriter) sameStore(array int64, kids []int) int {
	c, before := r.copied, r.copied.nodes[kids[0]]
	if before.Op == api.OpStore && before.Imm != array {
		s := c.store(array, before.Kids[0], kids[1], kids[2])
		return r.use("exchanged stores", c.store(before.Imm, s, before.Kids[1], before.Kids[2]))
	}
	return r.use("store twice", c.store(array, c.store(array, kids[0], kids[1], kids[1]), kids[1], kids[2]))
}

// sameLoad uses that the cell does not change, that it has been stored, or that it does not exist.
func (r *rewriter) sameLoad(array int64, kids []int) int {
	c, before := r.copied, r.copied.nodes[kids[0]]
	length := c.constant(int64(r.unit.Arrays[array].Len))
	inside := c.put(api.OpLtu, 0, kids[1], length)
	if before.Op == api.OpStore && before.Imm == array && before.Kids[1] == kids[1] {
		return r.use("load of a stored cell", c.choose(inside, before.Kids[2], c.constant(0)))
	}
	if r.chance(2) {
		return r.use("load inside", c.choose(inside, c.load(array, kids[0], kids[1]), c.constant(0)))
	}
	return r.use("load in a later state", c.load(array, r.sameCells(kids[0], kids[1], array), kids[1]))
}

// sameCells returns a state after another one with the same cells, but for those of arrays other than the given one.
func (r *rewriter) sameCells(s, v int, array int64) int {
	c := r.copied
	other := r.random.Int64N(int64(len(r.unit.Arrays)))
	switch r.random.IntN(3) {
	case 0:
		return c.guard(5, s, v)
	case 1:
		if other != array {
			return c.store(other, s, v, v)
		}
	}
	return c.output(s, v)
}

// 9.6, W2: nodes that are equal by the meaning of their operations can replace each other.
func TestEqualNodes(t *testing.T) {
	uses, kinds := map[string]int{}, map[int]int{}
	for seed := range uint64(2500) {
		g := newGraphMaker(seed)
		u := g.makeUnit()
		r := &rewriter{graphMaker: g, uses: uses}
		v := r.rewrite(r.rewrite(u))
		if !ir.Valid(v) {
			t.Fatalf("seed %d: the unit is not valid: %s", seed, excerpt(v))
		}
		args := g.arguments()
		for _, fuel := range []int{0, 1, 2, 4} {
			if _, ok := expected(u, args, fuel); !ok {
				continue
			}
			first, second := eval.Run(u, "f", args, fuel), eval.Run(v, "f", args, fuel)
			if !same(first, second) {
				t.Fatalf("seed %d: with %v and fuel %d, the outcome of %s is %s, but that of %s is %s", seed, args, fuel, excerpt(u), excerpt(first), excerpt(v), excerpt(second))
			}
			kinds[first.Kind]++
		}
	}
	for name, count := range uses {
		if count < 40 {
			t.Errorf("equality %q is used only %d times", name, count)
		}
	}
	if len(uses) != 20 || kinds[api.Returned] < 500 || kinds[api.Trapped] < 200 || kinds[api.OutOfFuel] < 500 {
		t.Errorf("the equalities are %v, the kinds of outcomes %v", uses, kinds)
	}
}
