package printer_test

import (
	"reflect"
	"slices"
	"strings"
	"testing"

	"fulling/api"
	"fulling/checker"
	"fulling/printer"
)

// checkInvalid checks a program for which checker.Check returns this error.
func checkInvalid(t *testing.T, what string, p api.Program, why api.Errno) {
	t.Helper()
	if got := checker.Check(p); got != why {
		t.Errorf("%s: Check returns %d, want %d", what, got, why)
	}
	if got := printer.Print(p); got != "" {
		t.Errorf("%s: Print returns %.400q", what, got)
	}
}

// 5.1: programs that can be parsed, but are not valid
func TestInvalidTexts(t *testing.T) {
	for s, why := range map[string]api.Errno{
		"array x 0;":  api.ErrLimit,
		"array x 17;": api.ErrLimit,
		strings.Repeat("func f(){return 0;}", api.MaxFuncs+1):                     api.ErrLimit,
		"func f(){return " + strings.Repeat("~", api.MaxDeep+1) + "1;}":           api.ErrLimit,
		"func f(){" + strings.Repeat("while(1){}", api.MaxLoops+1) + "return 0;}": api.ErrLimit,
		"func f(){" + strings.Repeat("out 1;", api.MaxStmts+1) + "return 0;}":     api.ErrLimit,
		"array x 1;array x 1;":                                                api.ErrDuplicate,
		"func f(){return 0;}func f(){return 0;}":                              api.ErrDuplicate,
		"func f(a)var a{return 0;}":                                           api.ErrDuplicate,
		"array x 1;func f(x){return 0;}":                                      api.ErrDuplicate,
		"func f(){return a;}":                                                 api.ErrUndefined,
		"func g(a){return a;}func f(){return a;}":                             api.ErrUndefined,
		"func f(a){return a[0];}":                                             api.ErrUndefined,
		"func f(a){a=g();return a;}":                                          api.ErrUndefined,
		"func f(a){a=f();return a;}":                                          api.ErrArity,
		"array x 1;func f(a){a=f(1,2);return x[0];}func g(){out 1;return 0;}": api.ErrArity,
	} {
		checkInvalid(t, s, parse(t, s), why)
	}
}

// 5.1: programs that have no text
func TestInvalidTrees(t *testing.T) {
	values := map[string]api.Expr{
		"no expression":            {},
		"unknown kind":             {Kind: api.ExprCond + 1},
		"negative kind":            {Kind: -1},
		"no operation":             operation(0, num(1), num(2)),
		"negative operation":       operation(-1, num(1), num(2)),
		"large operation":          operation(1<<62, num(1), num(2)),
		"unsigned comparison":      operation(api.OpLtu, num(1), num(2)),
		"selection":                operation(api.OpSelect, num(1), num(2)),
		"loop":                     operation(api.OpLoop, num(1)),
		"no operands":              operation(api.OpAdd),
		"one operand":              operation(api.OpAdd, num(1)),
		"three operands":           operation(api.OpAdd, num(1), num(2), num(3)),
		"negation of two operands": operation(api.OpNeg, num(1), num(2)),
		"negation of no operand":   operation(api.OpNeg),
		"two alternatives":         choice(num(1), num(2)),
		"element without index":    {Kind: api.ExprIndex, Name: "x"},
		"variable without name":    variable(""),
		"reserved word":            variable("return"),
		"invalid name":             variable("a b"),
		"number with a name":       {Kind: api.ExprNum, Name: "a"},
		"number with a kid":        {Kind: api.ExprNum, Kids: []api.Expr{num(1)}},
	}
	for what, value := range values {
		checkInvalid(t, what, returning(value), api.ErrSyntax)
		checkInvalid(t, what+", inside", returning(choice(num(1), num(2), value)), api.ErrSyntax)
	}
	for what, s := range map[string]api.Stmt{
		"no statement":          {},
		"unknown kind":          {Kind: api.StmtTrap + 1},
		"negative trap":         {Kind: api.StmtTrap, N: -1},
		"large trap":            {Kind: api.StmtTrap, N: 1000001},
		"output without value":  {Kind: api.StmtOut},
		"loop with Else":        {Kind: api.StmtWhile, Value: num(1), Else: []api.Stmt{{Kind: api.StmtTrap}}},
		"assignment with Args":  {Kind: api.StmtAssign, Name: "a", Value: num(1), Args: []api.Expr{num(1)}},
		"assignment to nothing": {Kind: api.StmtAssign, Value: num(1)},
	} {
		p := returning(num(0))
		p.Funcs[0].Body = []api.Stmt{{Kind: api.StmtTrap}, s}
		checkInvalid(t, what, p, api.ErrSyntax)
	}
	checkInvalid(t, "array", api.Program{Arrays: []api.Array{{Name: "0x", Len: 1}}}, api.ErrSyntax)
	checkInvalid(t, "function", api.Program{Funcs: []api.Func{{Value: num(0)}}}, api.ErrSyntax)
}

// R1: slices that contain themselves, and nesting as deep as the document's limits permit
func TestProgramsWithoutEnd(t *testing.T) {
	kids := []api.Expr{num(0), operation(api.OpAdd)}
	kids[1].Kids = kids
	checkInvalid(t, "kids", returning(operation(api.OpAdd, kids...)), api.ErrLimit)
	body := []api.Stmt{{Kind: api.StmtIf, Value: num(0)}}
	body[0].Then = body
	p := returning(num(0))
	p.Funcs[0].Body = body
	checkInvalid(t, "Then", p, api.ErrLimit)
	deep := num(1)
	for range 1 << 16 {
		deep = operation(api.OpNeg, deep)
	}
	checkInvalid(t, "negations", returning(deep), api.ErrLimit)
}

// R1: an expression of the largest depth in which all operands are operations, too
func TestLargestExpression(t *testing.T) {
	e, want := variable("a"), []byte("a")
	for i := range api.MaxDeep {
		if i > 0 {
			want = slices.Concat([]byte("("), want, []byte(")"))
		}
		e, want = operation(api.OpAdd, e, e), slices.Concat(want, []byte(" + "), want)
	}
	want = slices.Concat([]byte("array x 2;\nfunc f(a, b) {\n  return "), want, []byte(";\n}\n"))
	if got := printer.Print(returning(e)); got != string(want) {
		t.Errorf("Print returns another text, of %d bytes instead of %d", len(got), len(want))
	}
}

// R2: a nil slice and an empty slice are equivalent.
func TestEmptySlices(t *testing.T) {
	leaf := func(e api.Expr) api.Expr {
		e.Kids = []api.Expr{}
		return e
	}
	trap := api.Stmt{Kind: api.StmtTrap, Args: []api.Expr{}, Then: []api.Stmt{}, Else: []api.Stmt{}}
	conditional := api.Stmt{Kind: api.StmtIf, Value: leaf(variable("a")), Args: []api.Expr{}, Then: []api.Stmt{}, Else: []api.Stmt{}}
	p := api.Program{Arrays: []api.Array{}, Funcs: []api.Func{
		{Name: "f", Params: []string{"a"}, Locals: []string{}, Body: []api.Stmt{trap, conditional}, Value: leaf(num(5))},
		{Name: "g", Params: []string{}, Locals: []string{"a"}, Body: []api.Stmt{}, Value: leaf(variable("a"))},
	}}
	checkTree(t, p, text("func f(a) {", "  trap 0;", "  if (a) {", "  }", "  return 5;", "}", "func g() var a {", "  return a;", "}"))
	checkTree(t, api.Program{Funcs: []api.Func{}}, "")
}

// roomy copies a value so that all its slices have unused capacity, which holds copies of their first elements.
func roomy(v reflect.Value) reflect.Value {
	switch v.Kind() {
	case reflect.Struct:
		copied := reflect.New(v.Type()).Elem()
		for i := range v.NumField() {
			copied.Field(i).Set(roomy(v.Field(i)))
		}
		return copied
	case reflect.Slice:
		n := v.Len()
		copied := reflect.MakeSlice(v.Type(), n+2, n+2)
		for i := range n {
			copied.Index(i).Set(roomy(v.Index(i)))
			copied.Index(n).Set(v.Index(0))
			copied.Index(n + 1).Set(v.Index(0))
		}
		return copied.Slice(0, n)
	}
	return v
}

// revealUnused makes the unused capacity of all slices a part of them.
func revealUnused(v reflect.Value) {
	switch v.Kind() {
	case reflect.Struct:
		for i := range v.NumField() {
			revealUnused(v.Field(i))
		}
	case reflect.Slice:
		for i := range v.Len() {
			revealUnused(v.Index(i))
		}
		v.SetLen(v.Cap())
	}
}

// R2, R4
func TestArgumentsAreNotChanged(t *testing.T) {
	for seed := range uint64(200) {
		p := newGenerator(seed).program()
		used, kept := roomy(reflect.ValueOf(p)), roomy(reflect.ValueOf(p))
		first, second := printer.Print(used.Interface().(api.Program)), printer.Print(used.Interface().(api.Program))
		if first != second || first != printer.Print(p) {
			t.Errorf("seed %d: different results", seed)
		}
		revealUnused(used)
		revealUnused(kept)
		if !reflect.DeepEqual(used.Interface(), kept.Interface()) {
			t.Errorf("seed %d: the program is changed", seed)
		}
	}
}
