package eval_test

import (
	"fmt"
	"math"
	"testing"

	"fulling/api"
	"fulling/word"
)

var words = []int64{0, 1, -1, 2, -2, 7, 63, 64, 65, -64, 1 << 32, math.MaxInt64, smallest, smallest + 1}

// 9.2
func TestConstantsAndParameters(t *testing.T) {
	b := newBuilder()
	first, second := b.param(0), b.param(1)
	for _, n := range words {
		b.checkValue(t, "constant", b.constant(n), n, 5, 6)
		b.checkValue(t, "first parameter", first, n, n, 6)
		b.checkValue(t, "second parameter", second, n, 5, n)
	}
}

// 9.2: the arithmetic of package word, which is total, with the operands in their order
func TestOperations(t *testing.T) {
	b := newBuilder()
	x, y := b.param(0), b.param(1)
	for op := api.OpAdd; op <= api.OpNot; op++ {
		v, compute := -1, func(int64, int64) int64 { return 0 }
		if op >= api.OpNeg {
			v, compute = b.put(op, 0, x), func(x, _ int64) int64 { return word.Unary(op, x) }
		} else {
			v, compute = b.put(op, 0, x, y), func(x, y int64) int64 { return word.Binary(op, x, y) }
		}
		for _, m := range words {
			for _, n := range words {
				b.checkValue(t, fmt.Sprint("operation ", op), v, compute(m, n), m, n)
			}
		}
	}
}

// 9.2: a division by 0 does not trap.
func TestDivisionsByZero(t *testing.T) {
	b := newBuilder()
	seven, zero := b.constant(7), b.constant(0)
	b.checkValue(t, "quotient", b.put(api.OpDiv, 0, seven, zero), 0)
	b.checkValue(t, "remainder", b.put(api.OpRem, 0, seven, zero), 0)
}

// 9.2
func TestSelections(t *testing.T) {
	b := newBuilder()
	condition, five, six := b.param(0), b.constant(5), b.constant(6)
	v := b.choose(condition, five, six)
	inner := b.choose(b.param(1), v, b.put(api.OpNeg, 0, v))
	for _, n := range words {
		want := int64(5)
		if n == 0 {
			want = 6
		}
		b.checkValue(t, "selection", v, want, n, 0)
		b.checkValue(t, "nested selection", inner, want, n, 1)
		b.checkValue(t, "nested selection", inner, -want, n, 0)
		b.checkValue(t, "equal alternatives", b.choose(condition, five, five), 5, n, 0)
	}
	b.checkValue(t, "condition as alternative", b.choose(condition, condition, five), 8, 8, 0)
	b.checkValue(t, "condition as alternative", b.choose(condition, five, condition), 0, 0, 0)
}

// explosive is a function f of one parameter that, if the parameter is not 0, calls itself twice with a parameter that is not 0,
// both times with the fuel that it has, so that evaluating what is not needed would go on for too long.
func explosive(b *builder) (first, second int) {
	a := b.param(0)
	next := b.put(api.OpOr, 0, a, b.constant(1))
	return b.call(functionF, entry, next), b.call(functionF, b.output(entry, a), next)
}

// 9.2: an OpSelect evaluates only the operand that it chooses, whether it is a value or a state.
func TestSelectionsAreEvaluatedOnDemand(t *testing.T) {
	for _, chosen := range []int64{0, 1} {
		b := newBuilder()
		first, second := explosive(b)
		a, three := b.param(0), b.constant(3)
		many := b.add(b.callResult(first), b.callResult(second))
		condition := a
		value, state := b.choose(condition, many, three), b.choose(condition, first, b.output(entry, three))
		if chosen != 0 {
			condition = b.put(api.OpEq, 0, a, b.constant(0))
			value, state = b.choose(condition, three, many), b.choose(condition, b.output(entry, three), second)
		}
		b.check(t, "value on demand", value, entry, api.MaxFuel, returned(3), 0)
		b.check(t, "state on demand", three, state, api.MaxFuel, returned(3, 3), 0)
		b.check(t, "load on demand", b.load(arrayX, state, three), entry, api.MaxFuel, returned(0), 0)
		b.check(t, "value and state on demand", value, state, api.MaxFuel, returned(3, 3), 0)
	}
}

// 9.2, 9.3: nodes that Value and State do not use are not evaluated, nor is what no longer matters after the state has stopped.
func TestUnusedNodesAreNotEvaluated(t *testing.T) {
	b := newBuilder()
	first, second := explosive(b)
	many := b.add(b.callResult(first), b.callResult(second))
	b.check(t, "unused nodes", b.constant(3), entry, api.MaxFuel, returned(3), 1)
	stopped := b.guard(4, entry, b.constant(0))
	b.check(t, "value in a stopped state", many, stopped, api.MaxFuel, trapped(4), 1)
	for _, s := range []int{b.output(stopped, many), b.guard(5, stopped, many), b.call(functionG, stopped, many)} {
		b.check(t, "after a stopped state", b.constant(3), s, api.MaxFuel, trapped(4), 1)
	}
	loop := b.loop(0, []int{stopped}, many, b.output(b.loopVar(0, 0), many))
	b.check(t, "loop in a stopped state", b.constant(3), b.loopResult(0, loop), api.MaxFuel, trapped(4), 1)
}

// 9.2: a node is evaluated once, however many others use it.
func TestSharedNodes(t *testing.T) {
	b := newBuilder()
	v, s, zero := b.param(0), b.store(arrayX, entry, b.constant(0), b.param(0)), b.constant(0)
	for range 200 {
		v, s = b.add(v, v), b.store(arrayX, s, zero, b.put(api.OpSub, 0, b.load(arrayX, s, zero), b.add(b.load(arrayX, s, zero), b.constant(1))))
	}
	b.check(t, "sums", v, s, 0, returned(0), 3)
	b.check(t, "states", b.load(arrayX, s, zero), s, 0, returned(-1), 3)
	v = b.callResult(b.call(functionF, entry, b.constant(0)))
	for range 200 {
		v = b.add(v, v)
	}
	b.check(t, "call", v, entry, 1, returned(0), 3)
}

// 9.2: cells within and beyond the bounds, for arrays of each length
func TestLoads(t *testing.T) {
	for length := 1; length <= api.MaxLen; length++ {
		for array := range int64(3) {
			b := newBuilder()
			s := entry
			for k := range int64(3) {
				for i := range int64(api.MaxLen) {
					s = b.store(k, s, b.constant(i), b.constant(100*k+i+50))
				}
			}
			u := unit(b.graph("f", 1, b.load(array, s, b.param(0)), entry))
			u.Arrays = []api.Array{{Name: "x", Len: api.MaxLen}, {Name: "y", Len: api.MaxLen}, {Name: "z", Len: api.MaxLen}}
			u.Arrays[array].Len = length
			for _, i := range []int64{-1, -2, -int64(length), 0, 1, 2, 3, int64(length) - 1, int64(length), int64(length) + 1, 15, 16, 17, 1 << 32, 1<<32 + 1, -1 << 32, math.MaxInt64, smallest, smallest + 1} {
				want := returned(0)
				if i >= 0 && i < int64(length) {
					want = returned(100*array + i + 50)
				}
				checkUnit(t, fmt.Sprint("array ", array, " of length ", length), u, 0, want, i)
			}
		}
	}
}

// 9.2: cells are 0 at the start.
func TestInitialCells(t *testing.T) {
	b := newBuilder()
	for _, array := range []int64{arrayX, arrayY} {
		for i := range int64(lengthOfY) {
			b.checkValue(t, "cell", b.load(array, entry, b.constant(i)), 0)
		}
	}
}

// 9.2: a load has the cell of its own state, whatever becomes of it later.
func TestLoadsInDifferentStates(t *testing.T) {
	b := newBuilder()
	one, five, six := b.constant(1), b.constant(5), b.constant(6)
	s := b.store(arrayX, entry, one, five)
	r := b.store(arrayX, s, one, six)
	q := b.output(r, five)
	for state, want := range map[int]int64{entry: 0, s: 5, r: 6, q: 6} {
		b.check(t, "load", b.load(arrayX, state, one), q, 0, returned(want, 5))
		b.check(t, "load of another array", b.load(arrayY, state, one), entry, 0, returned(0))
		b.check(t, "load of another cell", b.load(arrayX, state, b.constant(0)), entry, 0, returned(0))
	}
}

// 9.2: the result of the last call of the activation
func TestCallResults(t *testing.T) {
	b := newBuilder()
	zero, two, three := b.constant(0), b.constant(2), b.constant(3)
	b.checkValue(t, "no call", b.callResult(entry), 0)
	first := b.call(functionG, entry, two)
	second := b.call(functionG, first, three)
	b.checkValue(t, "first call", b.callResult(first), 2)
	b.checkValue(t, "second call", b.callResult(second), 5)
	b.checkValue(t, "another second call", b.callResult(b.call(functionG, first, two)), 4)
	later := b.store(arrayX, b.output(b.guard(3, first, two), two), zero, zero)
	b.checkValue(t, "later state", b.callResult(later), 2)
	b.checkValue(t, "trap afterwards", b.callResult(b.guard(3, first, zero)), 2)
	b.checkValue(t, "selection", b.callResult(b.choose(zero, first, second)), 5)
	b.checkValue(t, "selection", b.callResult(b.choose(two, first, second)), 2)
	b.checkValue(t, "selection of the entry", b.callResult(b.choose(zero, first, entry)), 0)
	b.checkValue(t, "both", b.put(api.OpSub, 0, b.callResult(first), b.callResult(second)), -3)
}

// 9.2: a called function has not called any function yet, and its calls are not those of its caller.
func TestCallResultsOfActivations(t *testing.T) {
	b := newBuilder()
	a, one := b.param(0), b.constant(1)
	s := b.call(functionG, entry, b.constant(4))
	inner := b.call(functionF, s, b.put(api.OpSub, 0, a, one))
	// f(1) calls g(4), and then f(0), whose value is the result of no call plus 1.
	value := b.choose(a, b.callResult(inner), b.add(b.callResult(entry), one))
	state := b.choose(a, inner, b.output(entry, b.callResult(entry)))
	b.check(t, "callee", value, state, 2, returned(1, 4, 0), 1)
	// f(0) calls g(4), whose result does not remain that of the last call of f(1).
	value = b.choose(a, b.callResult(inner), b.constant(7))
	state = b.choose(a, inner, s)
	b.check(t, "caller", value, state, 3, returned(7, 4, 4), 1)
}

// 9.2
func TestLoopResults(t *testing.T) {
	b := newBuilder()
	initial, next := []int{entry}, []int{b.output(b.loopVar(3, 0), b.loopVar(3, 2))}
	for v := range int64(api.MaxVars - 1) {
		initial = append(initial, b.constant(10*v))
		next = append(next, b.add(b.loopVar(3, 1+v), b.constant(v)))
	}
	again := b.put(api.OpLt, 0, b.loopVar(3, 2), b.constant(12))
	loop := b.loop(3, initial, again, next...)
	// Variable 2 is 10, 11 and 12 when the condition is evaluated.
	for v := range int64(api.MaxVars - 1) {
		b.check(t, fmt.Sprint("variable ", 1+v), b.loopResult(1+v, loop), b.loopResult(0, loop), 3, returned(13*v, 10, 11, 12))
	}
}
