package lower_test

import (
	"fmt"
	"reflect"
	"slices"
	"testing"

	"fulling/api"
	"fulling/checker"
	"fulling/interp"
	"fulling/lower"
	"fulling/parser"
	"fulling/printer"
)

// same compares outcomes; a nil slice and an empty slice are the same.
func same(a, b api.Outcome) bool {
	return a.Kind == b.Kind && a.Code == b.Code && a.Value == b.Value && slices.Equal(a.Out, b.Out)
}

// 8.1 to 8.4
func TestGeneratedGraphs(t *testing.T) {
	counts := map[api.Errno]int{}
	operations := map[int]int{}
	for seed := range uint64(3000) {
		p := newGenerator(seed).program()
		u, why := lower.Lower(p)
		counts[why]++
		if want := checker.Check(p); want != api.OK {
			checkError(t, p, p, want)
			continue
		}
		var texts, want []string
		most := 0
		for _, f := range p.Funcs {
			text, count := expected(p, f)
			want = append(want, fmt.Sprint(f.Name, " ", len(f.Params), " ", text))
			most = max(most, count)
		}
		if most > api.MaxNodes {
			checkError(t, p, p, api.ErrLimit)
			continue
		}
		for _, g := range mustLower(t, p, p).Funcs {
			texts = append(texts, fmt.Sprint(g.Name, " ", g.Params, " ", graphText(g)))
			for _, n := range g.Nodes {
				operations[n.Op]++
			}
		}
		if !slices.Equal(texts, want) || !slices.Equal(u.Arrays, p.Arrays) {
			t.Fatalf("seed %d: the program\n%s\nis lowered to\n%s, not\n%s", seed, excerpt(printer.Print(p)), excerpt(texts), excerpt(want))
		}
	}
	if counts[api.OK] < 2950 {
		t.Errorf("the errors are %v", counts)
	}
	for op := api.OpConst; op <= api.OpLoop; op++ {
		if operations[op] < 500 {
			t.Errorf("there are only %d nodes of operation %s", operations[op], operationName(op))
		}
	}
}

// 8.5
func TestOutcomesOfGeneratedPrograms(t *testing.T) {
	kinds, codes, longest := map[int]int{}, map[int]int{}, 0
	for seed := range uint64(1500) {
		g := newGenerator(seed)
		p := g.program()
		u, why := lower.Lower(p)
		if why != api.OK {
			continue
		}
		e := newEvaluator(u)
		for range 3 {
			args := g.arguments(p)
			for _, fuel := range []int{0, 1, 2, 3, 4 + g.random.IntN(20), 100} {
				want := interp.Run(p, "f", args, fuel)
				if got := e.run("f", args, fuel); !same(got, want) {
					t.Fatalf("seed %d: with %v and fuel %d, the outcome is %s, not %s, of\n%s",
						seed, args, fuel, excerpt(got), excerpt(want), printer.Print(p))
				}
				kinds[want.Kind]++
				codes[want.Code]++
				longest = max(longest, len(want.Out))
			}
		}
	}
	for _, kind := range []int{api.Returned, api.Trapped, api.OutOfFuel} {
		if kinds[kind] < 3000 {
			t.Errorf("kind %d is expected only %d times: %v", kind, kinds[kind], kinds)
		}
	}
	for _, code := range []int{api.TrapDiv, api.TrapIndex, api.TrapUser, api.TrapUser + 5, api.TrapUser + 1000000} {
		if codes[code] < 150 {
			t.Errorf("code %d is expected only %d times: %v", code, codes[code], codes)
		}
	}
	if longest < 100 {
		t.Errorf("the longest output has only %d words", longest)
	}
}

// 8.5: all amounts of fuel
func TestOutcomesWithAllFuel(t *testing.T) {
	s := "array x 5; func f(a, b) var c, d { while (a > c) { d = g(c); while (d) { d = d - 1; out d; x[d] = x[d] + c; } c = c + 1; } " +
		"while (b) { b = f(b - 1, 0); out b; } return x[a % 5] / (x[1] - 3); } " +
		"func g(a) { if (a & 1) { a = g(a - 1); a = a + 1; } else { if (a == 6) { trap 4; } } return a; }"
	p := parse(t, s)
	e := newEvaluator(mustLower(t, s, p))
	kinds := map[int]int{}
	for a := range int64(8) {
		for b := range int64(5) {
			for fuel := range 80 {
				args := []int64{a, b}
				got, want := e.run("f", args, fuel), interp.Run(p, "f", args, fuel)
				if !same(got, want) {
					t.Errorf("with %v and fuel %d, the outcome is %v, not %v", args, fuel, got, want)
				}
				kinds[want.Kind]++
			}
			if got, want := e.run("f", []int64{a, b}, api.MaxFuel), interp.Run(p, "f", []int64{a, b}, api.MaxFuel); !same(got, want) {
				t.Errorf("with %d and %d, the outcome is %v, not %v", a, b, got, want)
			}
		}
	}
	if len(kinds) != 3 {
		t.Errorf("not all kinds are expected: %v", kinds)
	}
}

// stateOperands returns the nodes of the states from which a state comes.
func stateOperands(l []api.Node, i int) []int {
	n := l[i]
	switch n.Op {
	case api.OpSelect:
		return n.Kids[1:]
	case api.OpLoopResult:
		return l[n.Kids[0]].Kids[:1]
	case api.OpEntry, api.OpLoopVar:
		return nil
	}
	return n.Kids[:1]
}

// leadsOnlyTo reports whether state i comes from nothing but the variable 0 of a loop.
func leadsOnlyTo(l []api.Node, loop int64, i int) bool {
	operands := stateOperands(l, i)
	if len(operands) == 0 {
		return l[i].Op == api.OpLoopVar && l[i].Imm == 16*loop
	}
	for _, j := range operands {
		if !leadsOnlyTo(l, loop, j) {
			return false
		}
	}
	return true
}

// 8.5: each iteration of a loop uses fuel, because its state continues the one of the iteration before (9.4).
func TestStatesOfLoops(t *testing.T) {
	loops := 0
	for seed := range uint64(300) {
		u, _ := lower.Lower(newGenerator(seed).program())
		for _, g := range u.Funcs {
			for i, n := range g.Nodes {
				if n.Op != api.OpLoop {
					continue
				}
				loops++
				if !leadsOnlyTo(g.Nodes, n.Imm, n.Kids[len(n.Kids)/2+1]) {
					t.Errorf("seed %d: the next state of node %d comes from elsewhere", seed, i)
				}
			}
		}
	}
	if loops < 300 {
		t.Errorf("there are only %d loops", loops)
	}
}

// 8.5: a program is lowered like its printed form.
func TestPrintedPrograms(t *testing.T) {
	for seed := range uint64(300) {
		p := newGenerator(seed).program()
		q, err := parser.Parse(printer.Print(p))
		if err.Why != api.OK || checker.Check(p) != api.OK {
			continue
		}
		u, why := lower.Lower(p)
		v, again := lower.Lower(q)
		if why != again || !reflect.DeepEqual(u, v) {
			t.Errorf("seed %d: %v and %v for\n%s", seed, u, v, printer.Print(p))
		}
	}
}
