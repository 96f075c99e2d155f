package interp_test

import (
	"reflect"
	"slices"
	"testing"

	"fulling/api"
	"fulling/checker"
	"fulling/interp"
)

// calling is a program whose function f has these parts; its variables are a and v, its array is x, and g returns its argument.
func calling(value api.Expr, body ...api.Stmt) api.Program {
	return api.Program{
		Arrays: []api.Array{{Name: "x", Len: 2}},
		Funcs: []api.Func{
			{Name: "f", Params: []string{"a"}, Locals: []string{"v"}, Body: body, Value: value},
			{Name: "g", Params: []string{"a"}, Value: variable("a")},
		},
	}
}

// 6.1: programs that have no text
func TestInvalidTrees(t *testing.T) {
	checkTree(t, "valid", calling(num(1)), 1, returned(1), 0)
	for what, value := range map[string]api.Expr{
		"no expression":          {},
		"unknown kind":           {Kind: api.ExprCond + 1},
		"negative kind":          {Kind: -1},
		"unsigned comparison":    operation(api.OpLtu, num(1), num(2)),
		"no operation":           operation(0, num(1), num(2)),
		"large operation":        operation(1<<62, num(1), num(2)),
		"no operands":            operation(api.OpAdd),
		"one operand":            operation(api.OpAdd, num(1)),
		"three operands":         operation(api.OpAdd, num(1), num(2), num(3)),
		"negation of no operand": operation(api.OpNeg),
		"two alternatives":       choice(num(1), num(2)),
		"element without index":  {Kind: api.ExprIndex, Name: "x"},
		"element of no array":    element("a", num(0)),
		"variable without name":  variable(""),
		"unknown variable":       variable("b"),
		"number with a name":     {Kind: api.ExprNum, Name: "a"},
	} {
		checkTree(t, what, calling(value), 1, api.Outcome{}, 0)
		checkTree(t, what+", not evaluated", calling(choice(num(1), num(2), value)), 1, api.Outcome{}, 0)
		checkTree(t, what+", in a statement", calling(num(0), api.Stmt{Kind: api.StmtOut, Value: value}), 1, api.Outcome{}, 0)
	}
	for what, s := range map[string]api.Stmt{
		"no statement":          {},
		"unknown kind":          {Kind: api.StmtTrap + 1},
		"negative trap":         {Kind: api.StmtTrap, N: -1},
		"large trap":            {Kind: api.StmtTrap, N: 1000001},
		"output without value":  {Kind: api.StmtOut},
		"store without index":   {Kind: api.StmtStore, Name: "x", Value: num(1)},
		"assignment to array":   {Kind: api.StmtAssign, Name: "x", Value: num(1)},
		"store to variable":     {Kind: api.StmtStore, Name: "v", At: num(0), Value: num(1)},
		"call without argument": {Kind: api.StmtCall, Name: "v", To: "g"},
		"call of no function":   {Kind: api.StmtCall, Name: "v", To: "h"},
	} {
		p := calling(num(0), api.Stmt{Kind: api.StmtIf, Value: num(0), Then: []api.Stmt{s}})
		checkTree(t, what, p, 1, api.Outcome{}, 0)
	}
	checkTree(t, "array", api.Program{Arrays: []api.Array{{Name: "x", Len: -1}}, Funcs: []api.Func{{Name: "f", Value: num(0)}}}, 0, api.Outcome{})
	checkTree(t, "function", api.Program{Funcs: []api.Func{{Value: num(0)}}}, 0, api.Outcome{})
	if got := interp.Run(api.Program{Funcs: []api.Func{{Value: num(0)}}}, "", nil, 0); !same(got, api.Outcome{}) {
		t.Errorf("Run of a function without name returns %v", got)
	}
}

// R1: slices that contain themselves, and nesting as deep as the document's limits permit
func TestProgramsWithoutEnd(t *testing.T) {
	kids := []api.Expr{num(0), operation(api.OpAdd)}
	kids[1].Kids = kids
	checkTree(t, "kids", calling(operation(api.OpAdd, kids...)), 1, api.Outcome{}, 0)
	body := []api.Stmt{{Kind: api.StmtIf, Value: num(0)}}
	body[0].Then = body
	checkTree(t, "Then", calling(num(0), body...), 1, api.Outcome{}, 0)
	deep := num(1)
	for range 1 << 16 {
		deep = operation(api.OpNeg, deep)
	}
	checkTree(t, "negations", calling(deep), 1, api.Outcome{}, 0)
}

// R1: the deepest recursion, in the deepest statements and with the deepest expressions
func TestDeepestRecursion(t *testing.T) {
	last := num(1)
	for i := range api.MaxDeep {
		last = operation(api.OpAdd, num(int64(i)), last)
	}
	next := variable("a")
	for range api.MaxDeep - 1 {
		next = choice(num(1), next, num(0))
	}
	next = operation(api.OpSub, next, num(1))
	list := []api.Stmt{{Kind: api.StmtCall, Name: "v", To: "f", Args: []api.Expr{next}}, {Kind: api.StmtOut, Value: last}}
	for range api.MaxDeep {
		list = []api.Stmt{{Kind: api.StmtIf, Value: variable("a"), Then: list}}
	}
	p := calling(operation(api.OpAdd, variable("v"), num(1)), list...)
	if why := checker.Check(p); why != api.OK {
		t.Fatalf("Check returns %d", why)
	}
	out := slices.Repeat([]int64{1 + api.MaxDeep*(api.MaxDeep-1)/2}, api.MaxFuel)
	checkTree(t, "recursion", p, api.MaxFuel, returned(api.MaxFuel+1, out...), api.MaxFuel)
	checkTree(t, "recursion", p, api.MaxFuel, outOfFuel(), api.MaxFuel+1)
	checkTree(t, "recursion", p, api.MaxFuel, outOfFuel(), -1)
}

// R1: an expression of the largest depth in which all operands are operations, too
func TestLargestExpression(t *testing.T) {
	e := variable("a")
	for range api.MaxDeep {
		e = operation(api.OpAdd, e, e)
	}
	checkTree(t, "sum", calling(e), 0, returned(3<<api.MaxDeep), 3)
}

// R1: the longest outputs
func TestLongestOutput(t *testing.T) {
	outputs := slices.Repeat([]api.Stmt{{Kind: api.StmtOut, Value: variable("a")}}, api.MaxStmts-1)
	p := calling(num(0), api.Stmt{Kind: api.StmtWhile, Value: num(1), Then: outputs})
	checkTree(t, "outputs", p, api.MaxFuel, outOfFuel(slices.Repeat([]int64{7}, api.MaxFuel*(api.MaxStmts-1))...), 7)
}

// R2: a nil slice and an empty slice are equivalent.
func TestEmptySlices(t *testing.T) {
	one := num(1)
	one.Kids = []api.Expr{}
	p := api.Program{Arrays: []api.Array{}, Funcs: []api.Func{{
		Name: "f", Params: []string{}, Locals: []string{}, Value: one,
		Body: []api.Stmt{{Kind: api.StmtIf, Value: one, Args: []api.Expr{}, Then: []api.Stmt{}, Else: []api.Stmt{}}},
	}}}
	for _, args := range [][]int64{nil, {}} {
		if got := interp.Run(p, "f", args, 0); !same(got, returned(1)) {
			t.Errorf("Run returns %v", got)
		}
	}
}

// roomy copies a value so that all its slices have unused capacity, which holds copies of their first elements.
func roomy(v reflect.Value) reflect.Value {
	switch v.Kind() {
	case reflect.Struct:
		copied := reflect.New(v.Type()).Elem()
		for i := range v.NumField() {
			copied.Field(i).Set(roomy(v.Field(i)))
		}
		return copied
	case reflect.Slice:
		n := v.Len()
		copied := reflect.MakeSlice(v.Type(), n+2, n+2)
		for i := range n {
			copied.Index(i).Set(roomy(v.Index(i)))
			copied.Index(n).Set(v.Index(0))
			copied.Index(n + 1).Set(v.Index(0))
		}
		return copied.Slice(0, n)
	}
	return v
}

// revealUnused makes the unused capacity of all slices a part of them.
func revealUnused(v reflect.Value) {
	switch v.Kind() {
	case reflect.Struct:
		for i := range v.NumField() {
			revealUnused(v.Field(i))
		}
	case reflect.Slice:
		for i := range v.Len() {
			revealUnused(v.Index(i))
		}
		v.SetLen(v.Cap())
	}
}

// R2, R4
func TestArgumentsAreNotChanged(t *testing.T) {
	type arguments struct {
		P    api.Program
		Args []int64
	}
	for seed := range uint64(200) {
		g := newGenerator(seed)
		p := g.program()
		given := arguments{p, g.arguments(p)}
		used, kept := roomy(reflect.ValueOf(given)), roomy(reflect.ValueOf(given))
		u := used.Interface().(arguments)
		first := interp.Run(u.P, "f", u.Args, 50)
		second := interp.Run(u.P, "f", u.Args, 50)
		if !same(first, second) || !same(first, interp.Run(p, "f", given.Args, 50)) {
			t.Errorf("seed %d: different results", seed)
		}
		revealUnused(used)
		revealUnused(kept)
		if !reflect.DeepEqual(used.Interface(), kept.Interface()) {
			t.Errorf("seed %d: an argument is changed", seed)
		}
	}
}

// R2: results share no memory.
func TestResultsAreNew(t *testing.T) {
	p := parse(t, "func f() { out 1; out 2; out 3; return 4; }")
	first := interp.Run(p, "f", nil, 0)
	clear(first.Out[:cap(first.Out)])
	checkTree(t, "after a change of the first result", p, 0, returned(4, 1, 2, 3))
}
