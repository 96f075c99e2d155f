package interp_test

import (
	"fmt"
	"math"
	"reflect"
	"strings"
	"testing"

	"fulling/api"
	"fulling/interp"
	"fulling/parser"
)

func returned(value int64, out ...int64) api.Outcome {
	return api.Outcome{Kind: api.Returned, Value: value, Out: out}
}

func trapped(code int, out ...int64) api.Outcome {
	return api.Outcome{Kind: api.Trapped, Code: code, Out: out}
}

func outOfFuel(out ...int64) api.Outcome {
	return api.Outcome{Kind: api.OutOfFuel, Out: out}
}

// parse fails the test for a text that is not a program.
func parse(t *testing.T, s string) api.Program {
	t.Helper()
	p, err := parser.Parse(s)
	if err != (api.Err{}) {
		t.Fatalf("Parse(%q) returns %v", s, err)
	}
	return p
}

// same compares outcomes; a nil slice and an empty slice are the same.
func same(a, b api.Outcome) bool {
	if len(a.Out) == 0 && len(b.Out) == 0 {
		a.Out, b.Out = nil, nil
	}
	return reflect.DeepEqual(a, b)
}

// excerpt shortens a text for a message.
func excerpt(what any) string {
	s := fmt.Sprint(what)
	if len(s) <= 600 {
		return s
	}
	return s[:600] + ".."
}

// checkTree checks a run of the function f; what describes the program.
func checkTree(t *testing.T, what any, p api.Program, fuel int, want api.Outcome, args ...int64) {
	t.Helper()
	if got := interp.Run(p, "f", args, fuel); !same(got, want) {
		t.Errorf("%s: Run with %v and fuel %d returns %s, want %s", excerpt(what), args, fuel, excerpt(got), excerpt(want))
	}
}

// checkFueled checks a run of the function f of a program.
func checkFueled(t *testing.T, s string, fuel int, want api.Outcome, args ...int64) {
	t.Helper()
	checkTree(t, s, parse(t, s), fuel, want, args...)
}

// checkRun checks a run of a function f that uses no fuel.
func checkRun(t *testing.T, s string, want api.Outcome, args ...int64) {
	t.Helper()
	checkFueled(t, s, 0, want, args...)
}

// checkUses checks a run with all amounts of fuel up to a few more than it uses; short has the output of the runs with less.
func checkUses(t *testing.T, s string, fuel int, want api.Outcome, short func(fuel int) []int64, args ...int64) {
	t.Helper()
	for less := range fuel {
		checkFueled(t, s, less, outOfFuel(short(less)...), args...)
	}
	for _, enough := range []int{fuel, fuel + 1, fuel + 2, api.MaxFuel} {
		checkFueled(t, s, enough, want, args...)
	}
}

func nothing(fuel int) []int64 {
	return nil
}

// 6.1
func TestFunctionIsFoundByName(t *testing.T) {
	p := parse(t, "func a() { return 1; } func b() { return 2; } array c 3; func c() { return 3; } func d(a) { return a; }")
	for name, want := range map[string]int64{"a": 1, "b": 2, "c": 3} {
		if got := interp.Run(p, name, nil, 0); !same(got, returned(want)) {
			t.Errorf("Run of %s returns %v, want %d", name, got, want)
		}
	}
	if got := interp.Run(p, "d", []int64{4}, 0); !same(got, returned(4)) {
		t.Errorf("Run of d returns %v, want 4", got)
	}
}

// 6.1
func TestUnknownFunctions(t *testing.T) {
	p := parse(t, "array x 1; func f(a) var b { b = g(a); return b; } func g(c) { return c; }")
	for _, name := range []string{"", "h", "F", "ff", "f ", " f", "x", "a", "b", "func", "f(a)", "f\x00", "\xff"} {
		for _, args := range [][]int64{nil, {1}} {
			if got := interp.Run(p, name, args, 5); !same(got, api.Outcome{}) {
				t.Errorf("Run of %q returns %v", name, got)
			}
		}
	}
	if got := interp.Run(api.Program{}, "f", nil, 0); !same(got, api.Outcome{}) {
		t.Errorf("Run of the empty program returns %v", got)
	}
}

// 6.1
func TestNumberOfArguments(t *testing.T) {
	for params := range api.MaxParams + 1 {
		names := strings.Split("a,b,c,d,e,g", ",")[:params]
		s := "func g(z) { return z; } func f(" + strings.Join(names, ", ") + ") var h { out 3; return 7; }"
		for args := range api.MaxParams + 4 {
			want := api.Outcome{}
			if args == params {
				want = returned(7, 3)
			}
			checkRun(t, s, want, make([]int64, args)...)
		}
	}
}

// 6.1
func TestAmountsOfFuel(t *testing.T) {
	for _, s := range []string{"func f() { out 3; return 7; }", "func f() { while (1) { } return 7; }", "func f() { trap 1; return 7; }"} {
		for _, fuel := range []int{-1, -2, -api.MaxFuel, math.MinInt, api.MaxFuel + 1, api.MaxFuel + 2, 2 * api.MaxFuel, math.MaxInt} {
			checkFueled(t, s, fuel, api.Outcome{})
		}
	}
	checkFueled(t, "func f() { out 3; return 7; }", 0, returned(7, 3))
	checkFueled(t, "func f() { out 3; return 7; }", api.MaxFuel, returned(7, 3))
}

// 6.1
func TestAllFuelCanBeUsed(t *testing.T) {
	s := "func f(n) var i { while (i < n) { i = i + 1; } return i; }"
	checkFueled(t, s, api.MaxFuel, returned(api.MaxFuel), api.MaxFuel)
	checkFueled(t, s, api.MaxFuel, outOfFuel(), api.MaxFuel+1)
	checkFueled(t, s, api.MaxFuel-1, outOfFuel(), api.MaxFuel)
}

// 6.1
func TestInvalidPrograms(t *testing.T) {
	for _, s := range []string{
		"array x 0; func f() { return 0; }",
		"array x 17; func f() { return 0; }",
		"array x 1; array x 1; func f() { return 0; }",
		"func f() { return 0; } func f() { return 1; }",
		"func f() var a, a { return 0; }",
		"func f() { return a; }",
		"func f() { return 0; } func g() { return a; }",
		"func f() { return 1 ? 0 : a; }",
		"func f() { if (0) { a = 1; } return 0; }",
		"func f() { return 0; } func g() var a { a = h(); return a; }",
		"func f() { return 0; } func g() var a { a = f(1); return a; }",
		"func f() { return " + strings.Repeat("~", api.MaxDeep+1) + "1; }",
		"func f() { " + strings.Repeat("out 1; ", api.MaxStmts+1) + " return 0; }",
	} {
		checkRun(t, s, api.Outcome{})
	}
}

// 6.1: all cells are 0 at the start of each run.
func TestCellsAreZero(t *testing.T) {
	s := "array x 16; array y 3; func f(a) var i { while (i < 16) { out x[i]; x[i] = a; i = i + 1; } out y[0]; out y[1]; out y[2]; y[1] = a; return x[15]; }"
	p := parse(t, s)
	for _, a := range []int64{7, 0, -1, 7} {
		checkTree(t, s, p, 16, returned(a, make([]int64, 19)...), a)
	}
}

// 6.1: the parameters have the values of the arguments, in their order, and the local variables are 0.
func TestVariablesAtStart(t *testing.T) {
	checkRun(t, "func f(a, b, c, d, e, g) { out a; out b; out c; out d; out e; out g; return g - a; }",
		returned(math.MaxInt64-3, 3, -5, 0, math.MinInt64, 2, math.MaxInt64), 3, -5, 0, math.MinInt64, 2, math.MaxInt64)
	checkRun(t, "func f() var a, b, c, d, e, g, h, i { out a; out b; out c; out d; out e; out g; out h; return i; }", returned(0, 0, 0, 0, 0, 0, 0, 0))
	checkRun(t, "func f(a, b) var c { out c; c = a; out c; a = b; return a; }", returned(6, 0, 5), 5, 6)
}

// 6.1: the statements are executed in order, then the value is evaluated.
func TestOrderOfStatements(t *testing.T) {
	checkRun(t, "func f() { return 5; }", returned(5))
	checkRun(t, "func f(a) { out a; a = a + 1; out a; a = a * 3; out a; return a + 1; }", returned(16, 4, 5, 15), 4)
	checkRun(t, "array x 1; func f() { x[0] = 1; x[0] = x[0] + 1; out x[0]; x[0] = 9; return x[0]; }", returned(9, 2))
	checkRun(t, "func f(a) { out 1; return 2 / a; }", trapped(api.TrapDiv, 1), 0)
	checkRun(t, "array x 2; func f(a) { out 1; return x[a]; }", trapped(api.TrapIndex, 1), 2)
}

// 6.1: what ends the run ends it for the callers, too.
func TestEndOfRun(t *testing.T) {
	for ending, want := range map[string]api.Outcome{
		"trap 4;":           trapped(api.TrapUser+4, 1, 2, 3),
		"a = 1 / 0;":        trapped(api.TrapDiv, 1, 2, 3),
		"a = x[1];":         trapped(api.TrapIndex, 1, 2, 3),
		"x[1] = 0;":         trapped(api.TrapIndex, 1, 2, 3),
		"a = h();":          outOfFuel(1, 2, 3),
		"while (1) { }":     outOfFuel(1, 2, 3),
		"out 1 % 0;":        trapped(api.TrapDiv, 1, 2, 3),
		"a = i(x[1]);":      trapped(api.TrapIndex, 1, 2, 3),
		"if (1 / 0) { }":    trapped(api.TrapDiv, 1, 2, 3),
		"while (1 / 0) { }": trapped(api.TrapDiv, 1, 2, 3),
	} {
		for _, block := range []string{"$", "if (1) { $ out 7; }", "if (0) { } else { $ out 7; }", "while (1) { if (1) { $ } out 7; }"} {
			fuel := 2 + strings.Count(block, "while")
			s := "array x 1; func f() var a { out 1; a = g(); out 8; trap 9; return a; } func g() var a { out 2; a = h(); out 8; return 1 / 0; } " +
				"func h() var a { out 3; " + strings.ReplaceAll(block, "$", ending) + " out 8; return x[5]; } func i(a) { out 6; return a; }"
			// No fuel is left, so that a further call or iteration is an end as well.
			checkFueled(t, s, fuel, want)
		}
	}
}

// 6.4
func TestOutcomes(t *testing.T) {
	s := "func f(a) { out 10; out -20; if (a == 1) { trap 3; } while (a == 2) { } out 30; return 40 + a; }"
	checkRun(t, s, returned(40, 10, -20, 30), 0)
	checkRun(t, s, trapped(19, 10, -20), 1)
	checkRun(t, s, outOfFuel(10, -20), 2)
	checkRun(t, "func f() { return 0; }", api.Outcome{Kind: api.Returned})
	checkRun(t, "func f() { trap 0; return 0; }", api.Outcome{Kind: api.Trapped, Code: 16})
	checkRun(t, "func f() { while (1) { } return 0; }", api.Outcome{Kind: api.OutOfFuel})
	checkRun(t, "func f() { return 1 / 0; }", api.Outcome{Kind: api.Trapped, Code: 1})
	checkRun(t, "array x 1; func f() { return x[1]; }", api.Outcome{Kind: api.Trapped, Code: 2})
}

// 6.3
func TestExampleOfChapter(t *testing.T) {
	checkFueled(t, "func f() { while (1) { out 7; } return 0; }", 2, outOfFuel(7, 7))
}
