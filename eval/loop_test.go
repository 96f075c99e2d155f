package eval_test

import (
	"fmt"
	"slices"
	"testing"

	"fulling/api"
)

// counting puts loop 0, which outputs variable 1 and increments it, from 0 on, while the variable is less than a parameter.
// It returns the last state and the last value.
func counting(b *builder) (int, int) {
	s, i := b.loopVar(0, 0), b.loopVar(0, 1)
	again := b.put(api.OpLt, 0, i, b.param(0))
	loop := b.loop(0, []int{entry, b.constant(0)}, again, b.output(s, i), b.add(i, b.constant(1)))
	return b.loopResult(0, loop), b.loopResult(1, loop)
}

// 9.4: the first iteration is performed in any case, and the last one is that in which the condition was 0.
func TestIterations(t *testing.T) {
	b := newBuilder()
	s, v := counting(b)
	for n := range int64(20) {
		var out []int64
		for fuel := range int64(25) {
			if fuel <= n {
				b.check(t, "without enough fuel", v, s, int(fuel), outOfFuel(out...), n)
				b.check(t, "value without enough fuel", v, entry, int(fuel), returned(fuel), n)
				out = append(out, fuel)
				continue
			}
			b.check(t, "with enough fuel", v, s, int(fuel), returned(n+1, out...), n)
			b.check(t, "with enough fuel, in another state", v, entry, int(fuel), returned(n+1), n)
		}
	}
}

// 9.4
func TestLargestNumberOfIterations(t *testing.T) {
	b := newBuilder()
	s, v := counting(b)
	var out []int64
	for i := range int64(api.MaxFuel) {
		out = append(out, i)
	}
	b.check(t, "all fuel", v, s, api.MaxFuel, returned(api.MaxFuel, out...), api.MaxFuel-1)
	b.check(t, "too little fuel", v, s, api.MaxFuel, outOfFuel(out...), api.MaxFuel)
	b.check(t, "too little fuel", v, s, api.MaxFuel-1, outOfFuel(out[:api.MaxFuel-1]...), api.MaxFuel-1)
	b.check(t, "value without enough fuel", v, entry, api.MaxFuel, returned(api.MaxFuel), api.MaxFuel)
}

// 9.4: each iteration uses one unit of fuel, and the loop continues with what is left.
func TestFuelOfLoops(t *testing.T) {
	b := newBuilder()
	zero := b.constant(0)
	s, v := counting(b)
	last := b.call(functionG, b.call(functionG, s, b.constant(7)), b.constant(8))
	b.check(t, "fuel", v, last, 5, returned(3, 0, 1, 2, 7, 8), 2)
	b.check(t, "fuel", v, last, 4, outOfFuel(0, 1, 2, 7), 2)
	b.check(t, "fuel", v, last, 3, outOfFuel(0, 1, 2), 2)
	b.check(t, "fuel", v, last, 2, outOfFuel(0, 1), 2)
	// Fuel that another state used is still there.
	b.check(t, "other state", b.add(v, b.callResult(b.call(functionG, entry, b.constant(5)))), s, 3, returned(8, 0, 1, 2), 2)
	b.check(t, "no fuel", zero, s, 0, outOfFuel(), 2)
}

// 9.4: the condition is evaluated with the current values, not with the next ones, and every word but 0 continues the loop.
func TestConditionsOfLoops(t *testing.T) {
	for _, n := range words {
		b := newBuilder()
		s, i, again := b.loopVar(0, 0), b.loopVar(0, 1), b.loopVar(0, 2)
		loop := b.loop(0, []int{entry, b.constant(1), b.param(0)}, again, b.output(s, again), b.add(i, i), b.constant(0))
		want, value := returned(4, n, 0), int64(4)
		if n == 0 {
			want, value = returned(2, 0), 2
		}
		b.check(t, "condition", b.loopResult(1, loop), b.loopResult(0, loop), 9, want, n)
		b.check(t, "condition", b.loopResult(1, loop), entry, 9, returned(value), n)
	}
}

// 9.4: the next values become the current ones at once, after all of them have been evaluated.
func TestVariablesAreReplacedAtOnce(t *testing.T) {
	b := newBuilder()
	s, x, y, z, i := b.loopVar(2, 0), b.loopVar(2, 1), b.loopVar(2, 2), b.loopVar(2, 3), b.loopVar(2, 4)
	next := []int{b.output(b.output(s, x), y), y, z, x, b.put(api.OpSub, 0, i, b.constant(1))}
	loop := b.loop(2, []int{entry, b.constant(1), b.constant(2), b.constant(3), b.param(0)}, i, next...)
	last := b.output(b.output(b.output(b.loopResult(0, loop), b.loopResult(1, loop)), b.loopResult(2, loop)), b.loopResult(3, loop))
	b.check(t, "rotation", b.loopResult(4, loop), last, 9, returned(-1, 1, 2, 2, 3, 1), 0)
	b.check(t, "rotation", b.loopResult(4, loop), last, 9, returned(-1, 1, 2, 2, 3, 3, 1, 2), 1)
	b.check(t, "rotation", b.loopResult(4, loop), last, 9, returned(-1, 1, 2, 2, 3, 3, 1, 1, 2, 2, 3, 1), 3)
}

// 9.4: likewise if nothing but the next values uses the variables.
func TestVariablesAreExchanged(t *testing.T) {
	b := newBuilder()
	s, x, y, i := b.loopVar(2, 0), b.loopVar(2, 1), b.loopVar(2, 2), b.loopVar(2, 3)
	next := []int{s, y, x, b.put(api.OpSub, 0, i, b.constant(1))}
	loop := b.loop(2, []int{entry, b.constant(1), b.constant(2), b.param(0)}, i, next...)
	last := b.output(b.loopResult(0, loop), b.loopResult(1, loop))
	b.check(t, "exchange", b.loopResult(2, loop), last, 9, returned(1, 2), 0)
	b.check(t, "exchange", b.loopResult(2, loop), last, 9, returned(2, 1), 1)
	b.check(t, "exchange", b.loopResult(2, loop), last, 9, returned(1, 2), 4)
}

// 9.4: without fuel, only variable 0 changes.
func TestLoopsWithoutFuel(t *testing.T) {
	b := newBuilder()
	zero, one, six := b.constant(0), b.constant(1), b.constant(6)
	before := b.store(arrayX, b.call(functionG, entry, six), one, six)
	s, v := b.loopVar(1, 0), b.loopVar(1, 1)
	stored := b.store(arrayX, b.output(s, one), one, zero)
	loop := b.loop(1, []int{before, six}, one, stored, b.put(api.OpNeg, 0, v))
	after := b.loopResult(0, loop)
	b.check(t, "state", zero, after, 1, outOfFuel(6))
	b.check(t, "variable", b.loopResult(1, loop), before, 1, returned(6, 6))
	b.check(t, "cell", b.load(arrayX, after, one), before, 1, returned(6, 6))
	b.check(t, "call result", b.callResult(after), before, 1, returned(6, 6))
	b.check(t, "variable after an iteration", b.loopResult(1, loop), before, 2, returned(-6, 6))
	b.check(t, "cell after an iteration", b.load(arrayX, after, one), before, 2, returned(0, 6))
	b.check(t, "variable after two iterations", b.loopResult(1, loop), before, 3, returned(6, 6))
	b.check(t, "state after two iterations", zero, after, 3, outOfFuel(6, 1, 1))
}

// 9.4: variable 0 is the state after the tick.
func TestStateVariables(t *testing.T) {
	b := newBuilder()
	s, one := b.loopVar(0, 0), b.constant(1)
	loop := b.loop(0, []int{entry, b.constant(0)}, b.constant(0), b.call(functionG, s, one), b.callResult(b.call(functionG, s, b.constant(2))))
	b.check(t, "no fuel after the tick", b.loopResult(1, loop), b.loopResult(0, loop), 1, outOfFuel())
	b.check(t, "no fuel after the tick", b.loopResult(1, loop), entry, 1, returned(0))
	b.check(t, "fuel after the tick", b.loopResult(1, loop), b.loopResult(0, loop), 2, returned(2, 1))
}

// 9.4: a loop whose state has stopped before performs no iteration.
func TestLoopsInStoppedStates(t *testing.T) {
	b := newBuilder()
	for i, stopped := range stoppedStates(b) {
		number, seven := int64(i), b.constant(7)
		s, v := b.loopVar(number, 0), b.loopVar(number, 1)
		stored := b.store(arrayX, b.output(s, seven), b.constant(1), seven)
		loop := b.loop(number, []int{stopped.state, b.param(0)}, b.constant(1), stored, b.put(api.OpNeg, 0, v))
		after := b.loopResult(0, loop)
		b.check(t, "state", seven, after, 1, stopped.outcome, 4, 0)
		b.check(t, "variable", b.loopResult(1, loop), entry, 1, returned(4), 4, 0)
		b.check(t, "cell", b.load(arrayX, after, b.constant(1)), entry, 1, returned(6), 4, 0)
	}
}

// 9.4: a loop whose state stops during an iteration takes the next values of this iteration and performs no further one.
func TestLoopsThatStop(t *testing.T) {
	b := newBuilder()
	zero, one := b.constant(0), b.constant(1)
	s, i := b.loopVar(0, 0), b.loopVar(0, 1)
	guarded := b.guard(5, b.output(s, i), b.put(api.OpNe, 0, i, b.param(0)))
	loop := b.loop(0, []int{entry, zero}, one, b.store(arrayX, b.output(guarded, i), one, i), b.add(i, one))
	state, value := b.loopResult(0, loop), b.loopResult(1, loop)
	b.check(t, "trap", value, state, 9, trapped(5, 0), 0)
	b.check(t, "trap", value, state, 9, trapped(5, 0, 0, 1, 1, 2), 2)
	b.check(t, "value", value, entry, 9, returned(3), 2)
	b.check(t, "cell", b.load(arrayX, state, one), entry, 9, returned(2), 2)
	b.check(t, "no fuel", value, state, 2, outOfFuel(0, 0, 1, 1), 2)
	b.check(t, "value without fuel", value, entry, 2, returned(2), 2)
}

// 9.4: a trap in the last iteration counts, too, and so does one in a called function.
func TestLoopsThatStopAtTheEnd(t *testing.T) {
	b := newBuilder()
	a, s, i := b.param(0), b.loopVar(0, 0), b.loopVar(0, 1)
	loop := b.loop(0, []int{entry, a}, i, b.call(functionG, s, i), b.put(api.OpSub, 0, i, b.constant(1)))
	b.check(t, "call", b.loopResult(1, loop), b.loopResult(0, loop), 8, trapped(trapOfG, 3, 2, 1), 3)
	b.check(t, "value", b.loopResult(1, loop), entry, 8, returned(-1), 3)
	b.check(t, "call without fuel", b.loopResult(1, loop), b.loopResult(0, loop), 7, outOfFuel(3, 2, 1), 3)
	b.check(t, "value without fuel", b.loopResult(1, loop), entry, 7, returned(-1), 3)
	b.check(t, "tick without fuel", b.loopResult(1, loop), entry, 6, returned(0), 3)
	b.check(t, "calls", b.callResult(b.loopResult(0, loop)), entry, 7, returned(6), 3)
}

// 9.4: the result of the last call remains in the state from iteration to iteration.
func TestCallResultsInLoops(t *testing.T) {
	b := newBuilder()
	s, i, one := b.loopVar(0, 0), b.loopVar(0, 1), b.constant(1)
	last := b.callResult(s)
	called := b.choose(b.put(api.OpAnd, 0, i, one), b.call(functionG, s, i), s)
	loop := b.loop(0, []int{entry, b.constant(6)}, i, b.output(called, last), b.put(api.OpSub, 0, i, one))
	b.check(t, "call results", b.callResult(b.loopResult(0, loop)), b.loopResult(0, loop), 10,
		returned(9, 0, 5, 0, 5, 3, 5, 8, 1, 8, 9))
}

// 9.4: a loop in a loop is evaluated again in each iteration of the outer one, with the values of this iteration.
func TestNestedLoops(t *testing.T) {
	b := newBuilder()
	zero, one, ten := b.constant(0), b.constant(1), b.constant(10)
	s, i, sum := b.loopVar(4, 0), b.loopVar(4, 1), b.loopVar(4, 2)
	r, j, product := b.loopVar(9, 0), b.loopVar(9, 1), b.put(api.OpMul, 0, i, ten)
	both := b.add(product, j)
	inner := b.loop(9, []int{s, zero}, b.put(api.OpLt, 0, j, i), b.output(r, both), b.add(j, one))
	outer := b.loop(4, []int{entry, zero, zero}, b.put(api.OpLt, 0, i, b.param(0)), b.loopResult(0, inner), b.add(i, one), b.add(sum, b.loopResult(1, inner)))
	state, value := b.loopResult(0, outer), b.loopResult(2, outer)
	out := []int64{0, 10, 11, 20, 21, 22, 30, 31, 32, 33}
	b.check(t, "nested loops", value, state, 14, returned(10, out...), 3)
	b.check(t, "nested loops", value, state, 13, outOfFuel(out[:9]...), 3)
	b.check(t, "nested loops", value, state, 10, outOfFuel(out[:6]...), 3)
	b.check(t, "nested loops", value, state, 9, outOfFuel(out[:6]...), 3)
	b.check(t, "nested loops", value, state, 8, outOfFuel(out[:5]...), 3)
	b.check(t, "nested loops", value, state, 2, returned(1, 0), 0)
	// In the last iteration of the outer loop, the inner one has 1 for its only complete iteration, and fuel is missing for the second.
	b.check(t, "value", value, entry, 4, returned(2), 3)
}

// 9.4: a loop that does not depend on the iterations of the loop around it has the same results in all of them.
func TestLoopsFromOuterStates(t *testing.T) {
	b := newBuilder()
	zero, one := b.constant(0), b.constant(1)
	s, i := b.loopVar(0, 0), b.loopVar(0, 1)
	r, j := b.loopVar(1, 0), b.loopVar(1, 1)
	fixed := b.loop(1, []int{entry, one}, b.put(api.OpLt, 0, j, b.constant(5)), r, b.add(j, j))
	q, k := b.loopVar(2, 0), b.loopVar(2, 1)
	// Loop 2 has the fuel of the entry in each iteration of loop 0, on which its values depend.
	varying := b.loop(2, []int{entry, i}, b.put(api.OpLt, 0, k, b.add(i, b.constant(2))), q, b.add(k, one))
	out := b.output(b.output(s, b.loopResult(1, fixed)), b.loopResult(1, varying))
	loop := b.loop(0, []int{entry, zero}, b.put(api.OpLt, 0, i, b.constant(2)), out, b.add(i, one))
	state := b.loopResult(0, loop)
	b.check(t, "outer states", b.loopResult(1, loop), state, 4, returned(3, 16, 3, 16, 4, 16, 5))
	b.check(t, "outer states", b.loopResult(1, loop), state, 3, returned(3, 8, 3, 8, 4, 8, 5))
	b.check(t, "outer states", b.loopResult(1, loop), state, 2, outOfFuel(4, 2, 4, 3))
}

// 9.4: a loop depends on the iterations of the loop around it if only its condition or only its next values do.
func TestNestedLoopsWithFixedInitialValues(t *testing.T) {
	for what, put := range map[string]func(b *builder, i, j int) (condition, next int){
		"condition": func(b *builder, i, j int) (int, int) { return b.put(api.OpNe, 0, i, j), b.add(j, b.constant(1)) },
		"next value": func(b *builder, i, j int) (int, int) {
			return b.put(api.OpLt, 0, j, b.constant(0)), b.add(i, b.constant(1))
		},
	} {
		b := newBuilder()
		zero, one := b.constant(0), b.constant(1)
		s, i := b.loopVar(8, 0), b.loopVar(8, 1)
		r, j := b.loopVar(3, 0), b.loopVar(3, 1)
		condition, next := put(b, i, j)
		inner := b.loop(3, []int{entry, zero}, condition, r, next)
		loop := b.loop(8, []int{entry, zero}, b.put(api.OpLt, 0, i, b.constant(3)), b.output(s, b.loopResult(1, inner)), b.add(i, one))
		b.check(t, what, zero, b.loopResult(0, loop), 4, returned(0, 1, 2, 3, 4))
	}
}

// 9.4: nodes that use the results of a loop inside keep their values while that loop is evaluated later in the same iteration.
func TestResultsOfLoopsInside(t *testing.T) {
	b := newBuilder()
	zero, one := b.constant(0), b.constant(1)
	s, i, x, y := b.loopVar(0, 0), b.loopVar(0, 1), b.loopVar(0, 2), b.loopVar(0, 3)
	r, j, k := b.loopVar(1, 0), b.loopVar(1, 1), b.loopVar(1, 2)
	inner := b.loop(1, []int{s, i, zero}, b.put(api.OpLt, 0, k, j), r, j, b.add(k, one))
	// In even iterations, the next value of variable 2 does not need the loop inside, but that of variable 3 does.
	odd := b.put(api.OpAnd, 0, i, one)
	early := b.choose(odd, b.loopResult(2, inner), b.add(x, b.constant(10)))
	late := b.add(y, b.loopResult(2, inner))
	out := b.output(b.output(s, x), y)
	outer := b.loop(0, []int{entry, zero, zero, zero}, b.put(api.OpLt, 0, i, b.constant(3)), out, b.add(i, one), early, late)
	state, values := b.loopResult(0, outer), b.add(b.put(api.OpMul, 0, b.loopResult(2, outer), b.constant(100)), b.loopResult(3, outer))
	b.check(t, "results of loops inside", values, state, 9, returned(410, 0, 0, 10, 1, 2, 3, 12, 6))
}

// 9.4: a selection may leave a loop out in some iterations.
func TestLoopsOnDemand(t *testing.T) {
	b := newBuilder()
	zero, one := b.constant(0), b.constant(1)
	s, i := b.loopVar(0, 0), b.loopVar(0, 1)
	r, j := b.loopVar(1, 0), b.loopVar(1, 1)
	inner := b.loop(1, []int{s, i}, b.put(api.OpLt, 0, one, j), b.output(r, j), b.put(api.OpSub, 0, j, one))
	odd := b.put(api.OpAnd, 0, i, one)
	state := b.choose(odd, b.output(b.loopResult(0, inner), b.loopResult(1, inner)), b.output(s, b.put(api.OpNeg, 0, i)))
	outer := b.loop(0, []int{entry, b.constant(4)}, i, state, b.put(api.OpSub, 0, i, one))
	b.check(t, "loops on demand", b.loopResult(1, outer), b.loopResult(0, outer), 9, returned(-1, -4, 3, 2, 1, 0, -2, 1, 0, 0))
	b.check(t, "fuel of loops on demand", zero, b.loopResult(0, outer), 8, outOfFuel(-4, 3, 2, 1, 0, -2, 1, 0))
}

// 9.4: each activation has its own variables, even in the midst of an iteration.
func TestLoopsOfActivations(t *testing.T) {
	b := newBuilder()
	a, one := b.param(0), b.constant(1)
	s, i := b.loopVar(0, 0), b.loopVar(0, 1)
	// f(a) counts i from a down to 0 and calls f(i - 1) unless i is 0, then it outputs i.
	smaller := b.put(api.OpSub, 0, i, one)
	called := b.choose(i, b.call(functionF, s, smaller), s)
	loop := b.loop(0, []int{entry, a}, i, b.output(called, b.add(i, b.put(api.OpMul, 0, a, b.constant(10)))), smaller)
	value := b.loopResult(1, loop)
	outs := [][]int64{{0}}
	fuel := []int{1}
	for n := int64(1); n <= 4; n++ {
		var out []int64
		ticks := int(n) + 1
		for i := n; i >= 1; i-- {
			out = append(append(out, outs[i-1]...), 10*n+i)
			ticks += 1 + fuel[i-1]
		}
		outs, fuel = append(outs, append(out, 10*n)), append(fuel, ticks)
		last := outs[n]
		b.check(t, "recursion", value, b.loopResult(0, loop), fuel[n], returned(-1, last...), n)
		b.check(t, "recursion without fuel", value, b.loopResult(0, loop), fuel[n]-1, outOfFuel(last[:len(last)-1]...), n)
	}
}

// 9.4: loops with each number and each number of variables
func TestNumbersOfLoops(t *testing.T) {
	for number := range int64(api.MaxLoops) {
		for k := 1; k <= api.MaxVars; k++ {
			b := newBuilder()
			initial, next, condition := []int{entry}, []int{b.output(b.loopVar(number, 0), b.constant(number))}, b.constant(0)
			for v := 1; v < k; v++ {
				initial = append(initial, b.constant(int64(v)))
				next = append(next, b.loopVar(number, int64(1+v%(k-1))))
				condition = b.put(api.OpEq, 0, b.loopVar(number, 1), b.constant(1))
			}
			loop := b.loop(number, initial, condition, next...)
			last := b.loopResult(0, loop)
			for v := 1; v < k; v++ {
				last = b.output(last, b.loopResult(int64(v), loop))
			}
			want, rounds := []int64{number}, 1
			if k == 2 {
				// With one variable, the condition remains 1.
				b.check(t, "one variable", b.constant(0), last, 3, outOfFuel(number, number, number))
				continue
			}
			if k > 1 {
				want, rounds = []int64{number, number}, 2
			}
			for v := 1; v < k; v++ {
				want = append(want, int64(1+(v+1)%(k-1)))
			}
			b.check(t, fmt.Sprint("loop ", number, " with ", k, " variables"), b.constant(0), last, rounds, returned(0, want...))
		}
	}
}

// deepLoops puts all loops, each in the one before, and returns the state after the outermost.
// Every loop performs two iterations, and the innermost one continues with what body puts.
func deepLoops(b *builder, number int64, s int, body func(s int) int) int {
	if number == api.MaxLoops {
		return body(s)
	}
	i := b.loopVar(number, 1)
	inner := deepLoops(b, number+1, b.loopVar(number, 0), body)
	loop := b.loop(number, []int{s, b.constant(1)}, i, inner, b.constant(0))
	return b.loopResult(0, loop)
}

// 9.4: the deepest nesting of loops
func TestDeepestLoops(t *testing.T) {
	b := newBuilder()
	last := deepLoops(b, 0, entry, func(s int) int {
		digits := b.constant(0)
		for number := range int64(api.MaxLoops) {
			digits = b.add(b.add(digits, digits), b.loopVar(number, 1))
		}
		return b.output(s, digits)
	})
	// Fuel remains for the innermost loops only: those above need 14 units at first, and 2 for every two outputs.
	var out []int64
	count := int64(1<<api.MaxLoops - 1)
	fuel := api.MaxFuel
	for i := int64(0); ; i++ {
		// A loop starts as often as the bits below it, which were 0 before, are all 1; one tick for it and one for each of the bits below.
		ticks := api.MaxLoops
		if i > 0 {
			ticks = 1
			for (i>>(ticks-1))&1 == 0 {
				ticks++
			}
		}
		if fuel < ticks {
			break
		}
		fuel -= ticks
		out = append(out, count-i)
	}
	b.check(t, "deepest loops", b.constant(0), last, api.MaxFuel, outOfFuel(out...))
}

// 9.4: a graph with many loops one after another
func TestConsecutiveLoops(t *testing.T) {
	b := newBuilder()
	last, value := entry, b.param(0)
	var want []int64
	for number := range int64(api.MaxLoops) {
		s, v := b.loopVar(number, 0), b.loopVar(number, 1)
		loop := b.loop(number, []int{last, value}, b.constant(0), b.output(s, v), b.add(v, b.constant(number)))
		last, value = b.loopResult(0, loop), b.loopResult(1, loop)
		want = append(want, 5+number*(number-1)/2)
	}
	b.check(t, "consecutive loops", value, last, api.MaxLoops, returned(125, want...), 5)
	b.check(t, "consecutive loops", value, last, 3, outOfFuel(want[:3]...), 5)
}

// 9.4: nodes that stand for variables of a loop that does not exist, or are not used, do not matter.
func TestUnusedLoops(t *testing.T) {
	b := newBuilder()
	s, v := counting(b)
	r, w := b.loopVar(7, 0), b.loopVar(7, 15)
	b.output(r, w)
	b.loop(6, []int{r, w}, w, b.loopVar(6, 0), b.loopVar(6, 1))
	// A loop whose initial value is one of its own variables cannot be used.
	b.loop(5, []int{entry, b.loopVar(5, 1)}, w, b.loopVar(5, 0), w)
	b.check(t, "unused loops", v, s, 2, returned(2, 0, 1), 1)
}

// statesFromElsewhere put next states of loop 0, with which it uses no fuel and, as its variable 1 is never 0, has no end.
func statesFromElsewhere() map[string]func(b *builder) int {
	return map[string]func(b *builder) int{
		"entry":     func(b *builder) int { return entry },
		"output":    func(b *builder) int { return b.output(entry, b.loopVar(0, 1)) },
		"store":     func(b *builder) int { return b.store(arrayX, entry, b.load(arrayX, b.loopVar(0, 0), entry+1), entry+1) },
		"selection": func(b *builder) int { return b.choose(b.loopVar(0, 1), entry, b.loopVar(0, 0)) },
		"loop inside": func(b *builder) int {
			inner := b.loop(1, []int{b.loopVar(0, 0)}, b.loopVar(0, 1), entry)
			return b.loopResult(0, inner)
		},
	}
}

// R1: a run ends even if a loop in it would not. The chapter leaves open with which outcome (9.4), so it is the zero Outcome.
func TestLoopsWithoutEnd(t *testing.T) {
	for what, next := range statesFromElsewhere() {
		b := newBuilder()
		one := b.constant(1)
		i := b.loopVar(0, 1)
		loop := b.loop(0, []int{entry, one}, i, next(b), b.put(api.OpOr, 0, i, b.add(i, i)))
		state, value := b.loopResult(0, loop), b.loopResult(1, loop)
		for _, fuel := range []int{2, 3, api.MaxFuel} {
			b.check(t, what+", state", one, state, fuel, api.Outcome{})
			b.check(t, what+", value", value, entry, fuel, api.Outcome{})
			b.check(t, what+", not used", one, entry, fuel, returned(1))
		}
		u := unit(b.graph("k", 0, one, state))
		u.Funcs = append(u.Funcs, newBuilder().graph("f", 0, 1, 2))
		u.Funcs[3].Nodes = []api.Node{node(api.OpEntry, 0), node(api.OpConst, 1), node(api.OpCall, 0, 0)}
		checkUnit(t, what+", in a call", u, 3, api.Outcome{})
		checkUnit(t, what+", in a call without fuel", u, 0, outOfFuel())
	}
}

// R1: a run ends soon after a loop that would not, whatever else there is to evaluate.
func TestEvaluationAfterLoopsWithoutEnd(t *testing.T) {
	b := newBuilder()
	i := b.loopVar(0, 1)
	loop := b.loop(0, []int{entry, b.param(0)}, i, entry, i)
	first, second := explosive(b)
	value := b.add(b.loopResult(1, loop), b.add(b.callResult(first), b.callResult(second)))
	b.check(t, "calls", value, entry, api.MaxFuel, api.Outcome{}, 1)
	last := entry
	for number := range int64(api.MaxLoops - 1) {
		around := b.loop(1+number, []int{entry, b.constant(1)}, b.loopVar(1+number, 1), b.loopVar(1+number, 0), value)
		value, last = b.loopResult(1, around), b.output(last, value)
	}
	b.check(t, "loops", value, last, api.MaxFuel, api.Outcome{}, 1)
}

// The chapter leaves open what a loop does whose state comes from elsewhere. If it ends, it is evaluated like others.
func TestStatesOfLoopsFromElsewhere(t *testing.T) {
	b := newBuilder()
	s, i, one := b.loopVar(0, 0), b.loopVar(0, 1), b.constant(1)
	loop := b.loop(0, []int{entry, b.constant(0)}, b.put(api.OpLt, 0, i, b.param(0)), b.output(entry, b.load(arrayX, s, i)), b.add(i, one))
	b.check(t, "state from elsewhere", b.loopResult(1, loop), b.loopResult(0, loop), 1, returned(5, 0), 4)
	b.check(t, "state from elsewhere", b.loopResult(1, loop), b.loopResult(0, loop), 0, outOfFuel(), 4)
}

// 9.4: the initial state of a loop may be any state, such as one of an outer loop or one of a selection.
func TestInitialStatesOfLoops(t *testing.T) {
	b := newBuilder()
	a, one := b.param(0), b.constant(1)
	first := b.output(entry, one)
	for i, s := range []int{entry, first, b.choose(a, first, entry), b.call(functionG, first, b.constant(3)), b.store(arrayX, first, one, one)} {
		number := int64(i)
		loop := b.loop(number, []int{s}, b.constant(0), b.output(b.loopVar(number, 0), b.constant(2)))
		want := [][]int64{{2}, {1, 2}, {1, 2}, {1, 3, 2}, {1, 2}}[i]
		b.check(t, "initial state", one, b.loopResult(0, loop), 2, returned(1, want...), 1)
		want = slices.Concat(want, []int64{1})
		b.check(t, "initial state", one, b.output(b.loopResult(0, loop), one), 2, returned(1, want...), 1)
	}
}
