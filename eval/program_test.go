package eval_test

import (
	"fmt"
	"math"
	"math/rand/v2"
	"testing"

	"fulling/api"
	"fulling/eval"
	"fulling/interp"
	"fulling/lower"
	"fulling/parser"
)

// checkProgram compares runs of a program and of its lowered unit.
func checkProgram(t *testing.T, s string, p api.Program, u api.Unit, fuel int, args ...int64) api.Outcome {
	t.Helper()
	want := interp.Run(p, "f", args, fuel)
	if got := eval.Run(u, "f", args, fuel); !same(got, want) {
		t.Fatalf("with %v and fuel %d, the outcome is %s, not %s, of %s", args, fuel, excerpt(got), excerpt(want), s)
	}
	return want
}

// 9.6: W1 for each kind of statement and expression
func TestPrograms(t *testing.T) {
	for _, s := range []string{
		"func f(a, b) { return a; }",
		"func f(a, b) var c { c = a * b; a = c - b; return a % (c + 1); }",
		"func f(a, b) { out a; out b; if (a < b) { out 1; } else { out 2; trap 3; } return a / b; }",
		"array x 3; func f(a, b) { x[a] = b; x[b] = x[a] + 1; out x[0]; out x[1]; return x[2]; }",
		"array x 3; array y 2; func f(a, b) var i { while (i < a) { x[i % 3] = x[(i + 1) % 3] + b; y[i] = i; out y[b]; i = i + 1; } return x[0]; }",
		"func f(a, b) { return a ? b ? 1 / a : a % b : b > a ? -b : ~a; }",
		"func f(a, b) { while (a) { while (b) { out a * 10 + b; b = b - 1; } b = a; a = a - 1; } return b; }",
		"func f(a, b) var c { if (a > 0) { c = f(a - 1, b + c); out c; } return c * 2 + b; }",
		"array x 2; func f(a, b) var c { x[0] = x[0] + 1; c = g(a); out x[0]; b = h(); return b + c; } func g(a) var c { if (a) { c = g(a - 1); } a = h(); return c + a; } func h() { x[1] = x[1] + x[0]; return x[1]; }",
		"func f(a, b) var c { while (1) { c = g(c); out c; if (c > a) { if (b) { trap 1000000; } else { a = a + 1; } } } return 0; } func g(a) { return a + 1; }",
		"array x 16; func f(a, b) var i, s { while (i < 16) { x[i] = i * a; i = i + 1; } while (i) { i = i - 1; s = s + x[i] / (b - i); } return s; }",
	} {
		p, u := lowered(t, s)
		for a := int64(-2); a < 6; a++ {
			for b := int64(-2); b < 5; b++ {
				for fuel := range 40 {
					checkProgram(t, s, p, u, fuel, a, b)
				}
				checkProgram(t, s, p, u, api.MaxFuel, a, b)
			}
		}
	}
}

// programMaker makes texts of programs, most of which run for a while before they trap.
type programMaker struct {
	random *rand.Rand
	// budget is the number of statements that may still be made.
	budget int
}

func (m *programMaker) pick(l ...string) string {
	return l[m.random.IntN(len(l))]
}

// program makes functions f, g and h with the parameters a and b and the local variables c and d.
func (m *programMaker) program() string {
	s := "array x 3; array y 16; "
	for _, name := range []string{"f", "g", "h"} {
		m.budget = 5 + m.random.IntN(25)
		s += "func " + name + "(a, b) var c, d { " + m.statements(3) + "return " + m.expression(2) + "; } "
	}
	return s
}

func (m *programMaker) statements(depth int) string {
	s := m.statement(depth)
	for m.budget > 0 && m.random.IntN(4) > 0 {
		s += m.statement(depth)
	}
	return s
}

func (m *programMaker) statement(depth int) string {
	m.budget--
	switch m.random.IntN(10) {
	case 0, 1:
		return m.variable() + " = " + m.expression(2) + "; "
	case 2:
		return m.element() + " = " + m.expression(2) + "; "
	case 3, 4:
		if depth > 0 {
			return "if (" + m.expression(2) + ") { " + m.statements(depth-1) + "} else { " + m.statements(depth-1) + "} "
		}
	case 5, 6:
		if depth > 0 {
			return m.loop(depth)
		}
	case 7:
		return m.variable() + " = " + m.pick("f", "g", "h") + "(" + m.expression(1) + ", " + m.expression(1) + "); "
	case 8:
		if m.random.IntN(6) == 0 {
			return "trap " + m.pick("0", "3", "1000000") + "; "
		}
	}
	return "out " + m.expression(2) + "; "
}

// loop makes a loop whose condition often becomes 0.
func (m *programMaker) loop(depth int) string {
	if m.random.IntN(4) == 0 {
		return "while (" + m.expression(2) + ") { " + m.statements(depth-1) + "} "
	}
	v := m.variable()
	return "while (" + v + " < " + m.pick("1", "2", "4") + ") { " + m.statements(depth-1) + v + " = " + v + " + 1; } "
}

func (m *programMaker) variable() string {
	return m.pick("a", "b", "c", "d")
}

func (m *programMaker) element() string {
	switch m.random.IntN(8) {
	case 0:
		return "x[" + m.expression(1) + "]"
	case 1:
		return "y[" + m.expression(1) + "]"
	}
	return m.pick("x[1]", "x[("+m.variable()+" >>> 1) % 3]", "y[15]", "y["+m.variable()+" & 15]")
}

func (m *programMaker) expression(depth int) string {
	if depth == 0 {
		return m.pick("a", "b", "c", "d", "0", "1", "2", "5", "-1", fmt.Sprint(math.MaxInt64))
	}
	switch m.random.IntN(8) {
	case 0, 1, 2:
		return "(" + m.expression(depth-1) + " " + m.pick("+", "-", "*", "&", "|", "^", "<<", ">>", ">>>", "==", "!=", "<", "<=", ">", ">=") + " " + m.expression(depth-1) + ")"
	case 3:
		return "(" + m.expression(depth-1) + " " + m.pick("/", "%") + " " + m.pick(m.expression(depth-1), "("+m.variable()+" | 1)") + ")"
	case 4:
		return m.pick("-", "~", "!") + "(" + m.expression(depth-1) + ")"
	case 5:
		return "(" + m.expression(depth-1) + " ? " + m.expression(depth-1) + " : " + m.expression(depth-1) + ")"
	case 6:
		return m.element()
	}
	return m.expression(depth - 1)
}

// 9.6: W1
func TestGeneratedPrograms(t *testing.T) {
	kinds, codes, longest, accepted := map[int]int{}, map[int]int{}, 0, 0
	for seed := range uint64(1000) {
		m := &programMaker{random: rand.New(rand.NewPCG(seed, 99))}
		s := m.program()
		p, err := parser.Parse(s)
		u, why := lower.Lower(p)
		if err != (api.Err{}) || why == api.ErrSyntax {
			t.Fatalf("seed %d: the program is wrong (%v, %d): %s", seed, err, why, s)
		}
		if why != api.OK {
			continue
		}
		accepted++
		for range 3 {
			var args []int64
			for range 2 {
				args = append(args, []int64{0, 1, 2, 3, 7, -1, -8, 100, math.MaxInt64, smallest}[m.random.IntN(10)])
			}
			for _, fuel := range []int{0, 1, 2, 3, 4 + m.random.IntN(20), 100, api.MaxFuel} {
				want := checkProgram(t, s, p, u, fuel, args...)
				kinds[want.Kind]++
				codes[want.Code]++
				longest = max(longest, len(want.Out))
			}
		}
	}
	for _, kind := range []int{api.Returned, api.Trapped, api.OutOfFuel} {
		if kinds[kind] < 2000 {
			t.Errorf("kind %d is expected only %d times: %v", kind, kinds[kind], kinds)
		}
	}
	for _, code := range []int{api.TrapDiv, api.TrapIndex, api.TrapUser, api.TrapUser + 3, api.TrapUser + 1000000} {
		if codes[code] < 100 {
			t.Errorf("code %d is expected only %d times: %v", code, codes[code], codes)
		}
	}
	if accepted < 900 || longest < 500 {
		t.Errorf("%d programs are valid, and the longest output has %d words", accepted, longest)
	}
}
