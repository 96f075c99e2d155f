package interp_test

import (
	"math"
	"slices"
	"strings"
	"testing"

	"fulling/api"
)

// body is the text of a function f of a and b with these statements, which returns v.
func body(statements string) string {
	return "array x 3; func f(a, b) var v, w { " + statements + " return v; } func g(c) var v { v = c + 100; out v; return v; }"
}

func checkBody(t *testing.T, statements string, want api.Outcome, args ...int64) {
	t.Helper()
	checkRun(t, body(statements), want, append(args, make([]int64, 2-len(args))...)...)
}

// 6.3
func TestAssignments(t *testing.T) {
	checkBody(t, "", returned(0))
	checkBody(t, "v = a;", returned(4), 4, 5)
	checkBody(t, "v = a; v = v - b; a = 70; v = v + a;", returned(69), 4, 5)
	checkBody(t, "v = a; a = b; b = v; v = a * 10 + b;", returned(54), 4, 5)
	checkBody(t, "v = 1; v = a / b;", trapped(api.TrapDiv), 4, 0)
	checkBody(t, "v = 1; v = x[a];", trapped(api.TrapIndex), 3)
}

// 6.3
func TestStores(t *testing.T) {
	checkBody(t, "x[1] = a; v = x[0] * 100 + x[1] * 10 + x[2];", returned(40), 4)
	checkBody(t, "x[a] = 5; x[b] = x[a] + 1; x[a] = 7; out x[0]; out x[1]; out x[2];", returned(0, 7, 0, 6), 0, 2)
	checkBody(t, "x[0] = 2; x[x[0]] = x[0] + 7; v = x[2];", returned(9))
	checkBody(t, "x[0] = 1; x[x[0] + 1] = 8; x[0] = x[2]; v = x[0];", returned(8))
}

// 6.3
func TestBoundsOfStores(t *testing.T) {
	for i := range int64(3) {
		checkBody(t, "x[a] = 5; v = x[a]; out x[0] + x[1] + x[2];", returned(5, 5), i)
	}
	for _, i := range []int64{-1, 3, 4, 16, 1 << 32, -1 << 32, math.MaxInt64, math.MinInt64, math.MinInt64 + 1} {
		checkBody(t, "out 1; x[a] = 5; out 2;", trapped(api.TrapIndex, 1), i)
	}
}

// 6.3: At, then Value, then the bounds
func TestOrderOfStores(t *testing.T) {
	checkBody(t, "x[5] = 1 / a;", trapped(api.TrapDiv), 0)
	checkBody(t, "x[5] = 1 / a;", trapped(api.TrapIndex), 1)
	checkBody(t, "x[1 / a] = x[5];", trapped(api.TrapDiv), 0)
	checkBody(t, "x[1 / a] = x[5];", trapped(api.TrapIndex), 1)
	checkBody(t, "x[x[5]] = 1 / a;", trapped(api.TrapIndex), 0)
	checkBody(t, "x[0] = 1 / a;", trapped(api.TrapDiv), 0)
	checkBody(t, "x[-1] = x[-1] / a;", trapped(api.TrapIndex), 0)
}

// 6.3
func TestIf(t *testing.T) {
	s := "if (a) { v = 1; out 2; } else { v = 3; out 4; } out 5;"
	for _, c := range []int64{1, -1, 2, 1 << 32, math.MinInt64, math.MaxInt64} {
		checkBody(t, s, returned(1, 2, 5), c)
		checkBody(t, "if (a) { v = 1; }", returned(1), c)
		checkBody(t, "if (a) { } else { v = 1; }", returned(0), c)
	}
	checkBody(t, s, returned(3, 4, 5), 0)
	checkBody(t, "if (a) { v = 1; }", returned(0), 0)
	checkBody(t, "if (a) { } else { v = 1; }", returned(1), 0)
	checkBody(t, "if (1 / a) { out 1; } else { out 2; }", trapped(api.TrapDiv), 0)
	checkBody(t, "if (x[a]) { out 1; } else { out 2; }", trapped(api.TrapIndex), 3)
}

// 6.3: the condition is evaluated once, before the alternative.
func TestConditionOfIf(t *testing.T) {
	checkBody(t, "if (a) { a = 0; out 1; a = 2; } else { out 3; } v = a;", returned(2, 1), 7)
	checkBody(t, "if (a) { out 1; } else { a = 5; out 3; } v = a;", returned(5, 3), 0)
	checkBody(t, "if (a) { if (b) { v = 1; } else { v = 2; } } else { if (b) { v = 3; } else { v = 4; } }", returned(2), 1, 0)
}

// 6.3: only loops and calls consume fuel.
func TestStatementsWithoutTick(t *testing.T) {
	checkBody(t, "if (a) { v = x[1] / a; } else { trap 1; } x[v] = v; out x[0]; while (x[0]) { } while (0) { out 1; }", returned(0, 0), 5)
	checkFueled(t, body("v = a ? x[0] : b; if (1) { out v; } while (w < 2) { w = w + 1; }"), 2, returned(0, 0), 5, 6)
}

// 6.3: each iteration ticks.
func TestWhile(t *testing.T) {
	s := "func f(n) var s { while (n) { s = s + n; n = n - 1; } return s; }"
	for n := range 20 {
		checkUses(t, s, n, returned(int64(n*(n+1)/2)), nothing, int64(n))
	}
	s = "func f(n) var i { while (i < n) { out i; i = i + 1; } return i; }"
	all := []int64{0, 1, 2, 3, 4}
	checkUses(t, s, 5, returned(5, all...), func(fuel int) []int64 { return all[:fuel] }, 5)
}

// 6.3: the condition is evaluated before the tick, and again after the statements.
func TestOrderOfWhile(t *testing.T) {
	checkFueled(t, "func f() { while (1 / 0) { } return 0; }", 0, trapped(api.TrapDiv))
	checkFueled(t, "func f() { while (0) { trap 1; } return 5; }", 0, returned(5))
	checkFueled(t, "func f() { while (1) { trap 1; } return 0; }", 0, outOfFuel())
	checkFueled(t, "func f() { while (1) { trap 1; } return 0; }", 1, trapped(api.TrapUser+1))
	s := "func f(a) { while (6 / a) { out a; a = a - 1; } return a; }"
	checkFueled(t, s, 0, outOfFuel(), 2)
	checkFueled(t, s, 1, outOfFuel(2), 2)
	checkFueled(t, s, 2, trapped(api.TrapDiv, 2, 1), 2)
	checkFueled(t, s, 0, returned(7), 7)
	checkFueled(t, s, 0, trapped(api.TrapDiv), 0)
	s = "array x 2; func f() var i { while (x[i] + 1) { out i; i = i + 1; } return i; }"
	checkFueled(t, s, 2, trapped(api.TrapIndex, 0, 1))
	for _, c := range []int64{1, -1, 1 << 32, math.MinInt64} {
		checkFueled(t, "func f(a) { while (a) { out a; a = 0; } return 3; }", 1, returned(3, c), c)
	}
	// The condition does not hold any more in the middle of the statements, but again at their end.
	checkFueled(t, "func f(a) { while (a) { a = 0; out 1; a = 1; out 2; } return 3; }", 2, outOfFuel(1, 2, 1, 2), 1)
}

// 6.3: a loop in a loop starts again in each iteration, and each iteration of either ticks.
func TestNestedLoops(t *testing.T) {
	s := "func f(n) var i, j { while (i < n) { j = 0; while (j < i) { out 10 * i + j; j = j + 1; } i = i + 1; } return j; }"
	out := []int64{10, 20, 21, 30, 31, 32}
	starts := []int{0, 0, 0, 1, 1, 2, 3, 3, 4, 5}
	checkUses(t, s, 10, returned(3, out...), func(fuel int) []int64 { return out[:starts[fuel]] }, 4)
}

// 6.3
func TestOutputs(t *testing.T) {
	checkBody(t, "out 0; out a; out b - a; out a == 7;", returned(0, 0, 7, -10, 1), 7, -3)
	checkBody(t, "out 1; out 1 / a; out 2;", trapped(api.TrapDiv, 1), 0)
	want := make([]int64, 0, 150)
	for i := range int64(150) {
		want = append(want, i*i)
	}
	checkFueled(t, body("while (v < 150) { out v * v; v = v + 1; }"), 150, returned(150, want...), 0, 0)
}

// 6.3
func TestTraps(t *testing.T) {
	for text, code := range map[string]int{"0": 16, "1": 17, "5": 21, "240": 256, "999999": 1000015, "1000000": 1000016} {
		checkBody(t, "out 1; trap "+text+"; out 2;", trapped(code, 1))
		checkBody(t, "if (a) { out 3; trap "+text+"; } out 2;", trapped(code, 3), 1)
	}
	checkBody(t, "if (a) { trap 1; } v = 6;", returned(6), 0)
	checkBody(t, "trap 3; trap 4;", trapped(19))
}

// 6.3
func TestCalls(t *testing.T) {
	s := "func f(a) var b { b = g(a, a * 2); out b; return a; } func g(c, d) { out c; out d; return c * d; }"
	checkUses(t, s, 1, returned(3, 3, 6, 18), nothing, 3)
	checkFueled(t, "func f() var a { a = g(); return a; } func g() { return 7; }", 1, returned(7))
	checkFueled(t, "func f(f) { f = g(f); return f; } func g(f) { return f + 1; }", 1, returned(8), 7)
	s = "func f() var r { r = g(1, 2, 3, 4, 5, 6); return r; } func g(a, b, c, d, e, h) { out a; out b; out c; out d; out e; return h; }"
	checkFueled(t, s, 1, returned(6, 1, 2, 3, 4, 5))
}

// 6.3: the arguments are evaluated in order, before the tick.
func TestOrderOfCalls(t *testing.T) {
	functions := " func g(a, b) { trap 7; return 0; } func h() { return 1 / 0; }"
	for arguments, code := range map[string]int{
		"1 / 0, x[1]": api.TrapDiv, "x[1], 1 / 0": api.TrapIndex, "0, 1 / 0": api.TrapDiv, "0, x[1]": api.TrapIndex, "x[1], 0": api.TrapIndex,
	} {
		for fuel := range 2 {
			checkFueled(t, "array x 1; func f() var v { v = g("+arguments+"); return v; }"+functions, fuel, trapped(code))
		}
	}
	checkFueled(t, "func f() var v { v = g(1, 2); return v; }"+functions, 0, outOfFuel())
	checkFueled(t, "func f() var v { v = g(1, 2); return v; }"+functions, 1, trapped(api.TrapUser+7))
	checkFueled(t, "func f() var v { v = h(); return v; }"+functions, 0, outOfFuel())
	checkFueled(t, "func f() var v { v = h(); return v; }"+functions, 1, trapped(api.TrapDiv))
}

// 6.3: each activation has its own variables, and its local variables are 0 at its start.
func TestVariablesOfCalls(t *testing.T) {
	s := "func f(a) var v { v = 5; a = g(a + 1); out v; return a; } func g(b) var v, a { out a; out v; v = 9; a = 8; b = b * 2; return b; }"
	checkFueled(t, s, 1, returned(8, 0, 0, 5), 3)
	// The variables of a recursive call are other ones.
	s = "func f(n) var v, r { out v; v = n; if (n) { r = f(n - 1); } out v; out n; return r + v; }"
	checkFueled(t, s, 3, returned(6, 0, 0, 0, 0, 0, 0, 1, 1, 2, 2, 3, 3), 3)
	// The second call of a function finds nothing of the first one.
	s = "func f() var v { v = g(4); v = g(v); return v; } func g(c) var s { s = s + c; c = s * 10; return c; }"
	checkFueled(t, s, 2, returned(400))
}

// 6.3: the activations share the arrays and the output.
func TestWhatCallsShare(t *testing.T) {
	s := "array x 2; func f() var v { x[0] = 5; out 1; v = g(); out x[0]; out x[1]; return v; } func g() { out x[0]; x[0] = 6; x[1] = 7; return x[0] + x[1]; }"
	checkFueled(t, s, 1, returned(13, 1, 5, 6, 7))
	// The callee's value is evaluated in its arrays and variables, and assigned afterwards.
	s = "array x 1; func f(v) { v = g(v); out v; v = g(v); return v + x[0]; } func g(v) { x[0] = x[0] + v; v = v + 1; return x[0] * v; }"
	checkFueled(t, s, 2, returned(13*15+15, 4*3), 3)
}

// 6.3: the activations share the fuel.
func TestFuelOfCalls(t *testing.T) {
	s := "func f() var v { v = g(2); out v; v = g(3); out v; while (v) { v = v - 1; } return 9; } func g(n) var i { while (i < n) { i = i + 1; } return n; }"
	short := func(fuel int) []int64 {
		switch {
		case fuel < 3:
			return nil
		case fuel < 7:
			return []int64{2}
		}
		return []int64{2, 3}
	}
	checkUses(t, s, 10, returned(9, 2, 3), short)
}

// 6.3
func TestRecursion(t *testing.T) {
	s := "func f(n) var a, b { if (n < 2) { } else { a = f(n - 1); b = f(n - 2); n = a + b; } return n; }"
	fibonacci, calls := []int64{0, 1}, []int{0, 0}
	for n := 2; n <= 12; n++ {
		fibonacci = append(fibonacci, fibonacci[n-1]+fibonacci[n-2])
		calls = append(calls, calls[n-1]+calls[n-2]+2)
	}
	for n := range fibonacci {
		checkUses(t, s, calls[n], returned(fibonacci[n]), nothing, int64(n))
	}
	s = "func f(n) { if (n) { n = g(n - 1); } else { n = 1; } return n; } func g(n) { if (n) { n = f(n - 1); } return n; }"
	for n := range int64(9) {
		checkFueled(t, s, int(n), returned(1-n%2), n)
	}
}

// 6.3: a program with all kinds of statements
func TestSorting(t *testing.T) {
	s := `array x 16;
		func swap(i, j) var h { h = x[i]; x[i] = x[j]; x[j] = h; return 0; }
		func f(seed, n) var i, j, moved {
			while (i < n) { seed = seed * 6364136223846793005 + 1442695040888963407; x[i] = seed >> 60; i = i + 1; }
			i = n - 1;
			while (i > 0) {
				j = 0;
				while (j < i) {
					if (x[j] > x[j + 1]) { moved = swap(j, j + 1); } else { if (x[j] == x[j + 1]) { moved = moved; } }
					j = j + 1;
				}
				i = i - 1;
			}
			i = 0;
			while (i < n) { out x[i]; i = i + 1; }
			return x[0];
		}`
	p := parse(t, s)
	for seed := range int64(50) {
		var want []int64
		for r := seed; len(want) < 16; {
			r = r*6364136223846793005 + 1442695040888963407
			want = append(want, r>>60)
		}
		slices.Sort(want)
		checkTree(t, s, p, api.MaxFuel, returned(want[0], want...), seed, 16)
	}
	checkTree(t, s, p, 0, returned(0), 1, 0)
	checkTree(t, s, p, api.MaxFuel, trapped(api.TrapIndex), 1, 17)
}

// 6.3: the largest numbers of statements and loops
func TestLargestBodies(t *testing.T) {
	s := "func f() var v { " + strings.Repeat("v = v + 1; ", api.MaxStmts) + "return v; }"
	checkRun(t, s, returned(api.MaxStmts))
	s = "func f() var v { " + strings.Repeat("while (v < 0) { v = v + 2; } while (v >= 0) { v = v - 1; } ", api.MaxLoops/2) + "return v; }"
	checkFueled(t, s, 1+3*(api.MaxLoops/2-1), returned(-1))
	s = "func f() var v { " + strings.Repeat("while (1) { ", api.MaxLoops) + "v = v + 1; out v;" + strings.Repeat(" }", api.MaxLoops) + " return v; }"
	checkFueled(t, s, api.MaxLoops+2, outOfFuel(1, 2, 3))
}
