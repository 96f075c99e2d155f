package eval_test

import (
	"testing"

	"fulling/api"
	"fulling/eval"
	"fulling/ir"
)

// 9.1 to 9.4
func TestGeneratedUnits(t *testing.T) {
	kinds, operations, longest, skipped, runs := map[int]int{}, map[int]int{}, 0, 0, 0
	for seed := range uint64(3000) {
		g := newGraphMaker(seed)
		u := g.makeUnit()
		if !ir.Valid(u) {
			t.Fatalf("seed %d: the unit is not valid: %s", seed, excerpt(u))
		}
		used := map[int]int{}
		for _, f := range u.Funcs {
			for _, root := range []int{f.Value, f.State} {
				for _, i := range ir.Dependencies(f.Nodes, root) {
					used[f.Nodes[i].Op]++
				}
			}
		}
		for range 2 {
			args := g.arguments()
			for _, fuel := range []int{0, 1, 2, 3, 5, 9} {
				want, ok := expected(u, args, fuel)
				if !ok {
					skipped++
					continue
				}
				if got := eval.Run(u, "f", args, fuel); !same(got, want) {
					t.Fatalf("seed %d: with %v and fuel %d, the outcome is %s, not %s, of %s", seed, args, fuel, excerpt(got), excerpt(want), excerpt(u))
				}
				runs++
				kinds[want.Kind]++
				longest = max(longest, len(want.Out))
			}
		}
		for op, count := range used {
			operations[op] += count
		}
	}
	for _, kind := range []int{api.Returned, api.Trapped, api.OutOfFuel} {
		if kinds[kind] < 1000 {
			t.Errorf("kind %d is expected only %d times: %v", kind, kinds[kind], kinds)
		}
	}
	for op := api.OpConst; op <= api.OpLoop; op++ {
		if operations[op] < 300 {
			t.Errorf("there are only %d nodes of operation %d", operations[op], op)
		}
	}
	if longest < 20 || skipped > runs/50 {
		t.Errorf("the longest output has %d words, and %d of %d runs are skipped", longest, skipped, runs)
	}
}
