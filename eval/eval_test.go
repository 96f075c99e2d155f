package eval_test

import (
	"fmt"
	"math"
	"slices"
	"testing"

	"fulling/api"
	"fulling/eval"
	"fulling/lower"
	"fulling/parser"
)

// lowered fails the test for a text that is not a program, or too large.
func lowered(t *testing.T, s string) (api.Program, api.Unit) {
	t.Helper()
	p, err := parser.Parse(s)
	if err != (api.Err{}) {
		t.Fatalf("Parse(%q) returns %v", s, err)
	}
	u, why := lower.Lower(p)
	if why != api.OK {
		t.Fatalf("Lower of %q returns %d", s, why)
	}
	return p, u
}

func TestExample(t *testing.T) {
	_, u := lowered(t, "func f(x) { return 1 / x; }")
	checkUnit(t, "example", u, 0, trapped(1), 0)
	checkUnit(t, "example", u, 0, returned(1), 1)
}

// 9.1
func TestNames(t *testing.T) {
	u := api.Unit{Arrays: []api.Array{{Name: "x", Len: 1}}}
	for i, name := range []string{"g", "f", "x", "fg"} {
		u.Funcs = append(u.Funcs, api.Graph{Name: name, Nodes: []api.Node{node(api.OpEntry, 0), node(api.OpConst, int64(10+i))}, Value: 1})
	}
	for name, want := range map[string]api.Outcome{"g": returned(10), "f": returned(11), "x": returned(12), "fg": returned(13), "": {}, "h": {}, "gf": {}, "F": {}, "f ": {}} {
		if got := eval.Run(u, name, nil, 0); !same(got, want) {
			t.Errorf("the outcome of %q is %v, not %v", name, got, want)
		}
	}
	if got := eval.Run(api.Unit{}, "", nil, 0); !same(got, api.Outcome{}) {
		t.Errorf("the outcome of an empty unit is %v", got)
	}
}

// 9.1
func TestNumbersOfArguments(t *testing.T) {
	for params := range api.MaxParams + 1 {
		b := newBuilder()
		value := b.constant(1)
		for i := range int64(params) {
			value = b.add(b.put(api.OpMul, 0, value, b.constant(10)), b.param(i))
		}
		u := unit(b.graph("f", params, value, entry))
		digits := int64(1)
		var args []int64
		for n := range api.MaxParams + 3 {
			want := api.Outcome{}
			if n == params {
				want = returned(digits)
			}
			checkUnit(t, fmt.Sprint(params, " parameters"), u, 0, want, args...)
			args = append(args, int64(n)+3)
			digits = 10*digits + int64(n) + 3
		}
	}
}

// 9.1
func TestFuelLimits(t *testing.T) {
	b := newBuilder()
	u := unit(b.graph("f", 0, b.constant(4), entry))
	for _, fuel := range []int{0, 1, api.MaxFuel - 1, api.MaxFuel} {
		checkUnit(t, "fuel", u, fuel, returned(4))
	}
	for _, fuel := range []int{-1, -2, -api.MaxFuel, math.MinInt, api.MaxFuel + 1, 1 << 32, math.MaxInt} {
		checkUnit(t, "fuel", u, fuel, api.Outcome{})
	}
}

// 9.1: no part of a unit that is not valid is evaluated.
func TestInvalidUnits(t *testing.T) {
	b := newBuilder()
	valid := func() api.Unit { return unit(b.graph("f", 1, b.param(0), entry)) }
	b.param(0)
	checkUnit(t, "valid", valid(), 0, returned(6), 6)
	for what, change := range map[string]func(u *api.Unit){
		"no nodes":          func(u *api.Unit) { u.Funcs[0].Nodes = nil },
		"state as value":    func(u *api.Unit) { u.Funcs[0].Value = entry },
		"value as state":    func(u *api.Unit) { u.Funcs[0].State = 1 },
		"no value":          func(u *api.Unit) { u.Funcs[0].Value = 2 },
		"negative state":    func(u *api.Unit) { u.Funcs[0].State = -1 },
		"unknown parameter": func(u *api.Unit) { u.Funcs[0].Nodes[1].Imm = 1 },
		"identical nodes":   func(u *api.Unit) { u.Funcs[0].Nodes = append(u.Funcs[0].Nodes, node(api.OpEntry, 0)) },
		"unused malformed":  func(u *api.Unit) { u.Funcs[0].Nodes = append(u.Funcs[0].Nodes, node(api.OpAdd, 1, 1, 1)) },
		"value in a loop": func(u *api.Unit) {
			u.Funcs[0].Nodes = append(u.Funcs[0].Nodes, node(api.OpLoopVar, 1))
			u.Funcs[0].Value = 2
		},
		"other function":     func(u *api.Unit) { u.Funcs[2].Value = entry },
		"equal names":        func(u *api.Unit) { u.Funcs[2].Name = "f" },
		"bad name":           func(u *api.Unit) { u.Funcs[1].Name = "while" },
		"too many functions": func(u *api.Unit) { u.Funcs = append(u.Funcs, make([]api.Graph, api.MaxFuncs)...) },
		"no length":          func(u *api.Unit) { u.Arrays[1].Len = 0 },
		"large length":       func(u *api.Unit) { u.Arrays[0].Len = api.MaxLen + 1 },
		"missing array":      func(u *api.Unit) { u.Arrays = nil },
		"negative parameters": func(u *api.Unit) {
			u.Funcs[2].Params = -1
		},
		"too many nodes": func(u *api.Unit) {
			for i := range int64(api.MaxNodes) {
				u.Funcs[0].Nodes = append(u.Funcs[0].Nodes, node(api.OpConst, i))
			}
		},
	} {
		u := valid()
		change(&u)
		checkUnit(t, what, u, 0, api.Outcome{}, 6)
	}
}

// 9.1: Kind, Code, Value and Out
func TestOutcomes(t *testing.T) {
	b := newBuilder()
	zero, five := b.constant(0), b.constant(5)
	b.check(t, "returned", five, entry, 0, returned(5))
	out := b.output(b.output(entry, five), b.constant(-1))
	b.check(t, "output", five, out, 0, returned(5, 5, -1))
	for _, code := range []int{1, api.TrapIndex, 3, api.TrapUser, api.TrapUser + 1000000} {
		s := b.guard(int64(code), out, zero)
		b.check(t, "trap", five, s, 0, trapped(code, 5, -1))
		b.check(t, "trap before output", five, b.output(s, five), 0, trapped(code, 5, -1))
	}
	called := b.call(functionG, out, five)
	b.check(t, "call", five, called, 1, returned(5, 5, -1, 5))
	b.check(t, "call without fuel", five, called, 0, outOfFuel(5, -1))
	b.check(t, "call without fuel before output", five, b.output(called, zero), 0, outOfFuel(5, -1))
}

// 9.1: what other states than the function's do is not part of the outcome.
func TestUnusedStates(t *testing.T) {
	b := newBuilder()
	zero, five := b.constant(0), b.constant(5)
	first := b.output(entry, five)
	b.guard(3, first, zero)
	b.check(t, "unused states", zero, first, 0, returned(0, 5))
	stopped := b.guard(3, b.output(first, five), zero)
	b.check(t, "value in a stopped state", b.add(five, b.load(arrayX, stopped, zero)), first, 0, returned(5, 5))
	b.check(t, "value after a call without fuel", b.callResult(b.call(functionG, entry, five)), first, 0, returned(0, 5))
}

// 9.1: arguments and parameters of the function that is run, not of others
func TestParametersOfOtherFunctions(t *testing.T) {
	b := newBuilder()
	u := unit(b.graph("f", 3, b.param(0), entry))
	if got, want := eval.Run(u, "g", []int64{4}, 0), returned(4, 4); !same(got, want) {
		t.Errorf("the outcome of g is %v, not %v", got, want)
	}
	if got, want := eval.Run(u, "h", nil, 0), trapped(trapOfH); !same(got, want) {
		t.Errorf("the outcome of h is %v, not %v", got, want)
	}
	if got := eval.Run(u, "g", []int64{4, 4, 4}, 0); !same(got, api.Outcome{}) {
		t.Errorf("the outcome of g with three arguments is %v", got)
	}
}

// 9.1: outputs in their order, up to the longest that fit
func TestLongOutputs(t *testing.T) {
	b := newBuilder()
	var want []int64
	s := entry
	for i := range int64(api.MaxNodes/2 - 1) {
		s = b.output(s, b.constant(i))
		want = append(want, i)
	}
	b.check(t, "outputs", b.constant(0), s, 0, returned(0, want...))
	caller := newBuilder()
	value, last := caller.constant(1), caller.call(1, caller.call(1, entry))
	u := api.Unit{Funcs: []api.Graph{caller.graph("f", 0, value, last), b.graph("k", 0, b.constant(0), s)}}
	checkUnit(t, "outputs of two calls", u, 2, returned(1, slices.Concat(want, want)...))
}
