package lower_test

import (
	"cmp"
	"reflect"
	"slices"
	"testing"

	"fulling/api"
	"fulling/lower"
)

// R1: slices that contain themselves
func TestCyclicPrograms(t *testing.T) {
	kids := []api.Expr{num(0), operation(api.OpAdd)}
	kids[1].Kids = kids
	checkError(t, "kids", function(operation(api.OpAdd, kids...)), api.ErrLimit)
	for _, kind := range []int{api.StmtIf, api.StmtWhile} {
		body := []api.Stmt{{Kind: kind, Value: num(0)}}
		body[0].Then = body
		checkError(t, "Then", function(num(0), body...), api.ErrLimit)
	}
}

// R1: nesting as deep as the document's limits permit
func TestDeepPrograms(t *testing.T) {
	deep, list := num(1), []api.Stmt(nil)
	for range 1 << 16 {
		deep = operation(api.OpNeg, deep)
		list = []api.Stmt{{Kind: api.StmtIf, Value: num(0), Else: list}}
	}
	checkError(t, "negations", function(deep), api.ErrLimit)
	checkError(t, "statements", function(num(1), list...), api.ErrLimit)
}

// R1: the deepest nesting that the checker accepts
func TestDeepestPrograms(t *testing.T) {
	value := num(1)
	for range api.MaxDeep - 1 {
		value = choice(num(5), value, operation(api.OpDiv, num(7), variable("a")))
	}
	list := []api.Stmt{{Kind: api.StmtAssign, Name: "a", Value: value}}
	for i := range api.MaxDeep {
		kind := api.StmtWhile
		if i >= api.MaxLoops {
			kind = api.StmtIf
		}
		list = []api.Stmt{{Kind: kind, Value: value, Then: list}}
	}
	p := api.Program{Funcs: []api.Func{{Name: "f", Params: []string{"a"}, Value: value, Body: list}}}
	want, _ := expected(p, p.Funcs[0])
	if got := graphText(mustLower(t, "deepest program", p).Funcs[0]); got != want {
		t.Errorf("the graph is %s, not %s", excerpt(got), excerpt(want))
	}
	p.Funcs[0].Value = operation(api.OpNeg, value)
	checkError(t, "too deep", p, api.ErrLimit)
}

// R1: expressions of the largest depth in which all operands are operations, too
func TestLargestExpressions(t *testing.T) {
	e := variable("a")
	for range api.MaxDeep {
		e = operation(api.OpAdd, e, e)
	}
	p := api.Program{Funcs: []api.Func{{Name: "f", Params: []string{"a"}, Value: e}}}
	if got := countNodes(t, "sum", p); got != 2+api.MaxDeep {
		t.Errorf("the sum has %d nodes", got)
	}
	e = num(0)
	for range api.MaxDeep - 2 {
		e = operation(api.OpDiv, e, e)
	}
	checkError(t, "divisions", function(e), api.ErrLimit)
}

// R1: long lists
func TestLargePrograms(t *testing.T) {
	const many = 200000
	checkError(t, "arrays", api.Program{Arrays: make([]api.Array, many)}, api.ErrLimit)
	checkError(t, "functions", api.Program{Funcs: make([]api.Func, many)}, api.ErrLimit)
	checkError(t, "statements", function(num(1), make([]api.Stmt, many)...), api.ErrLimit)
	checkError(t, "kids", function(operation(api.OpAdd, make([]api.Expr, many)...)), api.ErrSyntax)
}

// R2: a nil slice and an empty slice are equivalent.
func TestEmptySlices(t *testing.T) {
	one := num(1)
	one.Kids = []api.Expr{}
	body := []api.Stmt{{Kind: api.StmtIf, Value: one, Args: []api.Expr{}, Then: []api.Stmt{}, Else: []api.Stmt{}}}
	p := api.Program{Arrays: []api.Array{}, Funcs: []api.Func{{Name: "f", Params: []string{}, Locals: []string{}, Value: one, Body: body}}}
	if got := graphText(mustLower(t, "empty slices", p).Funcs[0]); got != "entry const.1 = 1 0" {
		t.Errorf("the graph is %s", got)
	}
}

// roomy copies a value so that all its slices have unused capacity, which holds copies of their first elements.
func roomy(v reflect.Value) reflect.Value {
	switch v.Kind() {
	case reflect.Struct:
		copied := reflect.New(v.Type()).Elem()
		for i := range v.NumField() {
			copied.Field(i).Set(roomy(v.Field(i)))
		}
		return copied
	case reflect.Slice:
		n := v.Len()
		copied := reflect.MakeSlice(v.Type(), n+2, n+2)
		for i := range n {
			copied.Index(i).Set(roomy(v.Index(i)))
			copied.Index(n).Set(v.Index(0))
			copied.Index(n + 1).Set(v.Index(0))
		}
		return copied.Slice(0, n)
	}
	return v
}

// revealUnused makes the unused capacity of all slices a part of them.
func revealUnused(v reflect.Value) {
	switch v.Kind() {
	case reflect.Struct:
		for i := range v.NumField() {
			revealUnused(v.Field(i))
		}
	case reflect.Slice:
		for i := range v.Len() {
			revealUnused(v.Index(i))
		}
		v.SetLen(v.Cap())
	}
}

// R2, R4
func TestArgumentsAreNotChanged(t *testing.T) {
	for seed := range uint64(300) {
		p := newGenerator(seed).program()
		used, kept := reflect.New(reflect.TypeFor[api.Program]()).Elem(), reflect.New(reflect.TypeFor[api.Program]()).Elem()
		used.Set(roomy(reflect.ValueOf(p)))
		kept.Set(roomy(reflect.ValueOf(p)))
		q := used.Interface().(api.Program)
		first, why := lower.Lower(q)
		second, again := lower.Lower(q)
		other, otherWhy := lower.Lower(p)
		if why != again || why != otherWhy || !reflect.DeepEqual(first, second) || !reflect.DeepEqual(first, other) {
			t.Errorf("seed %d: different results", seed)
		}
		revealUnused(used)
		revealUnused(kept)
		if !reflect.DeepEqual(used.Interface(), kept.Interface()) {
			t.Errorf("seed %d: the argument is changed", seed)
		}
	}
}

// span is the memory of a slice, with its unused capacity.
type span struct {
	first, end uintptr
}

// spans appends those of all slices in a value.
func spans(l []span, v reflect.Value) []span {
	switch v.Kind() {
	case reflect.Struct:
		for i := range v.NumField() {
			l = spans(l, v.Field(i))
		}
	case reflect.Slice:
		for i := range v.Len() {
			l = spans(l, v.Index(i))
		}
		if v.Cap() > 0 {
			l = append(l, span{v.Pointer(), v.Pointer() + uintptr(v.Cap())*v.Type().Elem().Size()})
		}
	}
	return l
}

// R2: results share no memory with one another or with the argument, and neither do the parts of a result.
func TestResultsAreNew(t *testing.T) {
	for seed := range uint64(100) {
		p := roomy(reflect.ValueOf(newGenerator(seed).program())).Interface().(api.Program)
		first, _ := lower.Lower(p)
		second, _ := lower.Lower(p)
		l := spans(spans(spans(nil, reflect.ValueOf(p)), reflect.ValueOf(first)), reflect.ValueOf(second))
		slices.SortFunc(l, func(a, b span) int { return cmp.Compare(a.first, b.first) })
		for i := 1; i < len(l); i++ {
			if l[i].first < l[i-1].end {
				t.Errorf("seed %d: two slices share memory", seed)
			}
		}
	}
}
