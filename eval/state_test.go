package eval_test

import (
	"fmt"
	"math"
	"testing"

	"fulling/api"
)

// 9.3: a guard with a value that is not 0 is the state before it.
func TestGuards(t *testing.T) {
	b := newBuilder()
	a, five := b.param(0), b.constant(5)
	s := b.output(entry, five)
	guarded := b.output(b.guard(4, s, a), a)
	for _, n := range words {
		want := returned(5, 5, n)
		if n == 0 {
			want = trapped(4, 5)
		}
		b.check(t, "guard", five, guarded, 0, want, n)
	}
}

// 9.3: the first guard that traps decides about the code.
func TestGuardsInOrder(t *testing.T) {
	b := newBuilder()
	one := b.constant(1)
	s := b.guard(3, b.guard(2, b.guard(1, entry, b.param(0)), b.param(1)), b.param(2))
	for code := range 4 {
		args := []int64{1, 1, 1}
		want := returned(1)
		for i := code - 1; i >= 0 && i < 3; i++ {
			args[i] = 0
			want = trapped(code)
		}
		b.check(t, "guards", one, s, 0, want, args...)
	}
}

// 9.3: what is stored, in which array, and what remains
func TestStores(t *testing.T) {
	b := newBuilder()
	before := b.store(arrayY, b.store(arrayX, entry, b.constant(0), b.constant(50)), b.constant(2), b.constant(62))
	s := b.store(arrayX, b.output(before, b.constant(3)), b.param(0), b.param(1))
	for _, i := range []int64{-1, 0, 1, 2, 3, 16, 1 << 32, 1<<32 + 1, math.MaxInt64, smallest, smallest + 1} {
		for _, cell := range words {
			x := []int64{50, 0}
			if i >= 0 && i < lengthOfX {
				x[i] = cell
			}
			for at := range int64(lengthOfX) {
				b.check(t, "store", b.load(arrayX, s, b.constant(at)), s, 0, returned(x[at], 3), i, cell)
				b.check(t, "after a store", b.load(arrayX, b.output(s, b.param(1)), b.constant(at)), s, 0, returned(x[at], 3), i, cell)
			}
			for at, want := range []int64{0, 0, 62, 0} {
				b.check(t, "store in the other array", b.load(arrayY, s, b.constant(int64(at))), s, 0, returned(want, 3), i, cell)
			}
		}
	}
}

// 9.3: the last store in a cell counts, and only there.
func TestStoresInOrder(t *testing.T) {
	b := newBuilder()
	s := entry
	for i := range int64(12) {
		s = b.store(arrayY, s, b.constant(i%3), b.constant(i))
	}
	for at, want := range []int64{9, 10, 11, 0} {
		b.checkValue(t, "cell", b.load(arrayY, s, b.constant(int64(at))), want)
	}
}

// stopped is a state that has stopped in runs with fuel 1, with their outcome.
type stopped struct {
	state   int
	outcome api.Outcome
}

// stoppedStates returns states that have stopped after an output of 5 and a call of functionG with 2.
// In all of them, cell 1 of arrayX is 6 and the result of the last call is 2.
func stoppedStates(b *builder) []stopped {
	one, two := b.constant(1), b.constant(2)
	s := b.call(functionG, b.output(entry, b.constant(5)), two)
	s = b.store(arrayX, s, one, b.constant(6))
	loop := b.loop(15, []int{s}, b.constant(0), b.output(b.loopVar(15, 0), two))
	return []stopped{
		{b.guard(3, s, b.constant(0)), trapped(3, 5, 2)},
		{b.call(functionG, s, two), outOfFuel(5, 2)},
		{b.loopResult(0, loop), outOfFuel(5, 2)},
		{b.call(functionF, s, one, two), outOfFuel(5, 2)},
	}
}

// 9.3: in a state that has stopped, nothing but a store has an effect.
func TestStoppedStates(t *testing.T) {
	b := newBuilder()
	zero, one, seven := b.constant(0), b.constant(1), b.constant(7)
	for i, stopped := range stoppedStates(b) {
		s, want, number := stopped.state, stopped.outcome, int64(i)
		loop := b.loop(number, []int{s, seven}, zero, b.output(b.loopVar(number, 0), one), b.put(api.OpNeg, 0, b.loopVar(number, 1)))
		for what, later := range map[string]int{
			"state":      s,
			"guard":      b.guard(4, s, zero),
			"guard of 1": b.guard(4, s, one),
			"output":     b.output(s, seven),
			"call":       b.call(functionG, s, seven),
			"call of h":  b.call(functionH, s),
			"loop":       b.loopResult(0, loop),
			"selection":  b.choose(zero, entry, s),
			"two":        b.output(b.guard(5, b.call(functionH, s), zero), one),
		} {
			b.check(t, what, seven, later, 1, want, 0, 0)
			b.check(t, what+", output", seven, b.output(later, one), 1, want, 0, 0)
			b.check(t, what+", cell", b.load(arrayX, later, one), entry, 1, returned(6), 0, 0)
			b.check(t, what+", cell of g", b.load(arrayX, later, zero), entry, 1, returned(2), 0, 0)
			b.check(t, what+", call result", b.callResult(later), entry, 1, returned(2), 0, 0)
			stored := b.store(arrayX, later, one, seven)
			b.check(t, what+", store", seven, stored, 1, want, 0, 0)
			b.check(t, what+", cell after a store", b.load(arrayX, stored, one), entry, 1, returned(7), 0, 0)
			b.check(t, what+", cell before a store", b.load(arrayX, later, one), entry, 1, returned(6), 0, 0)
			b.check(t, what+", call result after a store", b.callResult(stored), entry, 1, returned(2), 0, 0)
			outside := b.store(arrayX, later, b.constant(lengthOfX), seven)
			b.check(t, what+", store out of bounds", b.load(arrayX, outside, one), entry, 1, returned(6), 0, 0)
		}
		b.check(t, "variable of a loop in a stopped state", b.loopResult(1, loop), entry, 1, returned(7), 0, 0)
	}
}

// 9.3: several states that are derived from one do not affect each other.
func TestStatesAreImmutable(t *testing.T) {
	b := newBuilder()
	zero, one, two, three := b.constant(0), b.constant(1), b.constant(2), b.constant(3)
	s := b.store(arrayX, b.output(entry, one), one, three)
	states := []int{
		s, b.store(arrayX, s, one, two), b.store(arrayX, s, zero, two), b.output(s, two), b.output(s, three),
		b.guard(6, s, zero), b.call(functionG, s, two), b.call(functionG, s, three), b.call(functionH, s),
	}
	outs := [][]int64{{1}, {1}, {1}, {1, 2}, {1, 3}, {1}, {1, 2}, {1, 3}, {1}}
	cells := [][2]int64{{0, 3}, {0, 2}, {2, 3}, {0, 3}, {0, 3}, {0, 3}, {2, 3}, {3, 3}, {0, 7}}
	results := []int64{0, 0, 0, 0, 0, 0, 2, 3, 0}
	// The sum of all cells has every state evaluated before the function's.
	sum, total := zero, int64(0)
	for i, s := range states {
		sum = b.add(sum, b.add(b.add(b.load(arrayX, s, zero), b.load(arrayX, s, one)), b.callResult(s)))
		total += cells[i][0] + cells[i][1] + results[i]
	}
	for i, s := range states {
		what := fmt.Sprint("state ", i)
		first := b.guard(7, s, b.put(api.OpEq, 0, sum, b.constant(total)))
		want := api.Outcome{Kind: api.Returned, Value: cells[i][0]*100 + cells[i][1]*10 + results[i], Out: outs[i]}
		switch s {
		case states[5]:
			want = trapped(6, 1)
		case states[8]:
			want = trapped(trapOfH, 1)
		}
		value := b.add(b.add(b.put(api.OpMul, 0, b.load(arrayX, s, zero), b.constant(100)), b.put(api.OpMul, 0, b.load(arrayX, s, one), b.constant(10))), b.callResult(s))
		b.check(t, what, value, first, 1, want)
		b.check(t, what+", value before the state", value, b.choose(b.put(api.OpEq, 0, sum, zero), entry, s), 1, want)
	}
}

// 9.3: several states that are derived from one have the same fuel.
func TestFuelOfSeveralStates(t *testing.T) {
	b := newBuilder()
	two, three := b.constant(2), b.constant(3)
	first, second := b.call(functionG, entry, two), b.call(functionG, entry, three)
	sum := b.add(b.callResult(first), b.callResult(second))
	b.check(t, "two calls", sum, entry, 1, returned(5))
	b.check(t, "two calls", sum, second, 1, returned(5, 3))
	b.check(t, "two calls", sum, b.call(functionG, first, two), 2, returned(5, 2, 2))
	b.check(t, "three calls", sum, b.call(functionG, first, two), 1, outOfFuel(2))
	b.check(t, "without fuel", sum, entry, 0, returned(0))
}

// 9.3: a call has the state, the arguments and the fuel of the caller, and the caller continues with what the call leaves.
func TestCalls(t *testing.T) {
	b := newBuilder()
	zero, one, four := b.constant(0), b.constant(1), b.constant(4)
	before := b.store(arrayX, b.output(entry, one), zero, b.constant(10))
	s := b.call(functionG, before, four)
	b.check(t, "call", b.callResult(s), s, 1, returned(14, 1, 4))
	b.check(t, "call", b.load(arrayX, s, zero), b.output(s, zero), 1, returned(14, 1, 4, 0))
	b.check(t, "call", b.load(arrayX, before, zero), s, 1, returned(10, 1, 4))
	b.check(t, "no fuel", b.callResult(s), s, 0, outOfFuel(1))
	b.check(t, "no fuel", b.callResult(s), before, 0, returned(0, 1))
	b.check(t, "no fuel", b.load(arrayX, s, zero), before, 0, returned(10, 1))
	b.check(t, "trap", zero, b.call(functionG, s, zero), 2, trapped(trapOfG, 1, 4))
	b.check(t, "no fuel for a trap", zero, b.call(functionG, s, zero), 1, outOfFuel(1, 4))
}

// 9.3: a call that traps leaves its arrays, and the result of the call before it.
func TestCallsThatStop(t *testing.T) {
	b := newBuilder()
	zero, one, four := b.constant(0), b.constant(1), b.constant(4)
	first := b.call(functionG, entry, four)
	s := b.call(functionH, first)
	b.check(t, "trap", zero, b.output(s, one), 2, trapped(trapOfH, 4))
	b.check(t, "result before", b.callResult(s), first, 2, returned(4, 4))
	b.check(t, "no result before", b.callResult(b.call(functionH, entry)), first, 2, returned(0, 4))
	b.check(t, "cell", b.load(arrayX, s, one), first, 2, returned(7, 4))
	b.check(t, "cell of the caller", b.load(arrayX, s, zero), first, 2, returned(4, 4))
	b.check(t, "result without fuel", b.callResult(b.call(functionG, first, one)), first, 1, returned(4, 4))
}

// 9.3: the value of the callee is evaluated in its own graph, after its state.
func TestArgumentsOfCalls(t *testing.T) {
	for params := range int64(api.MaxParams + 1) {
		callee := newBuilder()
		s, value := entry, callee.constant(1)
		for i := range params {
			s = callee.output(s, callee.param(i))
			value = callee.add(callee.put(api.OpMul, 0, value, callee.constant(10)), callee.param(i))
		}
		b := newBuilder()
		var args []int
		want, out := int64(1), []int64(nil)
		for i := range params {
			args = append(args, b.constant(9-i))
			want, out = 10*want+9-i, append(out, 9-i)
		}
		last := b.call(3, entry, args...)
		u := unit(b.graph("f", 0, b.callResult(last), last))
		u.Funcs = append(u.Funcs, callee.graph("k", int(params), value, s))
		checkUnit(t, fmt.Sprint(params, " arguments"), u, 1, returned(want, out...))
	}
}

// 9.3: functions by their numbers, including the caller's and later ones
func TestFunctionsOfCalls(t *testing.T) {
	for caller := range int64(api.MaxFuncs) {
		for callee := range int64(api.MaxFuncs) {
			var u api.Unit
			for i := range int64(api.MaxFuncs) {
				b := newBuilder()
				g := b.graph(fmt.Sprint("f", i), 0, b.constant(20+i), b.output(entry, b.constant(i)))
				if i == caller {
					s := b.call(callee, entry)
					g = b.graph("f", 0, b.callResult(s), b.output(s, b.constant(i)))
				}
				u.Funcs = append(u.Funcs, g)
			}
			want := returned(20+callee, callee, caller)
			if callee == caller {
				want = outOfFuel()
			}
			checkUnit(t, fmt.Sprint("function ", caller, " calls ", callee), u, 1, want)
		}
	}
}

// 9.3
func TestSelectionsOfStates(t *testing.T) {
	b := newBuilder()
	a, zero, four := b.param(0), b.constant(0), b.constant(4)
	first, second := b.output(b.store(arrayX, entry, zero, four), a), b.guard(2, b.output(entry, four), zero)
	s := b.choose(a, first, second)
	for _, n := range words {
		want := returned(4, n)
		if n == 0 {
			want = trapped(2, 4)
		}
		b.check(t, "selection", four, s, 0, want, n)
		b.check(t, "selection, in another state", b.load(arrayX, s, zero), entry, 0, returned(want.Value), n)
	}
}
