package checker_test

import (
	"math"
	"math/rand/v2"
	"reflect"

	"fulling/api"
)

// generator makes programs that are valid but for their sizes, and changes them.
type generator struct {
	random *rand.Rand
	arrays []api.Array
	funcs  []api.Func
	// variables has those of the current function.
	variables []string
	// budget is the number of statements and nodes with parts of their own that may still be made.
	budget int
}

func newGenerator(seed uint64) *generator {
	return &generator{random: rand.New(rand.NewPCG(seed, 2))}
}

// chance is true once in n times on average.
func (g *generator) chance(n int) bool {
	return g.random.IntN(n) == 0
}

func pick[T any](g *generator, l []T) T {
	return l[g.random.IntN(len(l))]
}

// more decides whether to make one of the parts for which there is a budget.
func (g *generator) more(n int) bool {
	if g.budget == 0 || !g.chance(n) {
		return false
	}
	g.budget--
	return true
}

// names returns up to n of the names.
func (g *generator) names(n int, from ...string) []string {
	n = g.random.IntN(n + 1)
	var l []string
	for _, i := range g.random.Perm(len(from))[:n] {
		l = append(l, from[i])
	}
	return l
}

func (g *generator) program() api.Program {
	g.arrays, g.funcs = nil, nil
	for _, name := range g.names(3, "x", "y", "f", "out1") {
		g.arrays = append(g.arrays, api.Array{Name: name, Len: 1 + g.random.IntN(api.MaxLen)})
	}
	for _, name := range g.names(3, "f", "g", "h", "a") {
		f := api.Func{Name: name, Params: g.names(3, "a", "b", "g"), Locals: g.names(2, "c", "d", "h")}
		g.funcs = append(g.funcs, f)
	}
	for i := range g.funcs {
		f := &g.funcs[i]
		g.variables = append(append([]string(nil), f.Params...), f.Locals...)
		g.budget = 30
		f.Body = g.statements()
		g.budget += 5
		f.Value = g.expression()
	}
	return api.Program{Arrays: g.arrays, Funcs: g.funcs}
}

func (g *generator) statements() []api.Stmt {
	var l []api.Stmt
	for g.more(2) || g.more(2) {
		l = append(l, g.statement())
	}
	return l
}

func (g *generator) statement() api.Stmt {
	kind := pick(g, []int{
		api.StmtAssign, api.StmtStore, api.StmtIf, api.StmtWhile, api.StmtOut, api.StmtTrap, api.StmtCall, api.StmtCall, api.StmtCall,
	})
	s := api.Stmt{Kind: kind}
	switch {
	case kind == api.StmtAssign && len(g.variables) > 0:
		s.Name, s.Value = pick(g, g.variables), g.expression()
	case kind == api.StmtStore && len(g.arrays) > 0:
		s.Name, s.At, s.Value = pick(g, g.arrays).Name, g.expression(), g.expression()
	case kind == api.StmtIf:
		s.Value, s.Then, s.Else = g.expression(), g.statements(), g.statements()
	case kind == api.StmtWhile:
		s.Value, s.Then = g.expression(), g.statements()
	case kind == api.StmtCall && len(g.variables) > 0:
		f := pick(g, g.funcs)
		s.Name, s.To = pick(g, g.variables), f.Name
		for range f.Params {
			s.Args = append(s.Args, g.expression())
		}
	case kind == api.StmtTrap:
		s.N = pick(g, []int{0, 1, 999999, 1000000})
	default:
		return api.Stmt{Kind: api.StmtOut, Value: g.expression()}
	}
	return s
}

func (g *generator) expression() api.Expr {
	switch {
	case g.more(4):
		return operation(pick(g, binaryOperations()), g.expression(), g.expression())
	case g.more(8):
		return operation(pick(g, []int{api.OpNeg, api.OpNot}), g.expression())
	case g.more(10):
		return choice(g.expression(), g.expression(), g.expression())
	case len(g.arrays) > 0 && g.more(6):
		return element(pick(g, g.arrays).Name, g.expression())
	case len(g.variables) > 0 && g.chance(2):
		return variable(pick(g, g.variables))
	}
	return num(pick(g, []int64{0, 1, 5, -1, -5, math.MaxInt64, math.MinInt64}))
}

// eachPart calls f with the strings, numbers and slices in a value.
func eachPart(v reflect.Value, f func(part reflect.Value)) {
	switch v.Kind() {
	case reflect.Struct:
		for i := range v.NumField() {
			eachPart(v.Field(i), f)
		}
		return
	case reflect.Slice:
		for i := range v.Len() {
			eachPart(v.Index(i), f)
		}
	}
	f(v)
}

// pickPart returns a part of p that has a property, or the list of its arrays if there is none.
func (g *generator) pickPart(p *api.Program, has func(part reflect.Value) bool) reflect.Value {
	chosen := reflect.ValueOf(&p.Arrays).Elem()
	n := 0
	eachPart(reflect.ValueOf(p).Elem(), func(part reflect.Value) {
		if has(part) {
			n++
			if g.chance(n) {
				chosen = part
			}
		}
	})
	return chosen
}

// changePart changes a part, mostly one that is a name or a list with elements.
func (g *generator) changePart(p *api.Program) {
	kind := pick(g, []reflect.Kind{reflect.Invalid, reflect.String, reflect.String, reflect.Slice, reflect.Slice, reflect.Slice})
	part := g.pickPart(p, func(part reflect.Value) bool {
		return kind == reflect.Invalid || part.Kind() == kind && part.Len() > 0
	})
	switch part.Kind() {
	case reflect.Slice:
		g.changeSlice(part)
	case reflect.String:
		part.SetString(g.otherName())
	default:
		part.SetInt(g.otherNumber(part.Int()))
	}
}

func (g *generator) otherName() string {
	if g.chance(8) {
		return pick(g, append(invalidNames(), validNames()...))
	}
	return pick(g, []string{"a", "b", "c", "d", "f", "g", "h", "x", "y", "out1"})
}

func (g *generator) otherNumber(n int64) int64 {
	switch g.random.IntN(4) {
	case 0:
		return n + 1
	case 1:
		return n - 1
	case 2:
		return pick(g, []int64{-1, 0, 16, 17, 20, 21, 1000000, 1000001, math.MaxInt64, math.MinInt64})
	}
	return g.random.Int64N(25)
}

// changeSlice adds, removes or repeats elements. A new element is zero or a copy of another one.
func (g *generator) changeSlice(v reflect.Value) {
	element := reflect.Zero(v.Type().Elem())
	at := 0
	if v.Len() > 0 {
		at = g.random.IntN(v.Len())
		if !g.chance(8) {
			element = v.Index(at)
		}
	}
	copies := pick(g, []int{0, 0, 2, 2, 2, 2, 3, 20})
	changed := reflect.MakeSlice(v.Type(), 0, v.Len()+copies)
	changed = reflect.AppendSlice(changed, v.Slice(0, at))
	for range copies {
		changed = reflect.Append(changed, element)
	}
	if v.Len() > 0 {
		changed = reflect.AppendSlice(changed, v.Slice(at+1, v.Len()))
	}
	v.Set(changed)
}

// changeFunction adds or removes a parameter, or replaces the value or the body by one that contains it.
func (g *generator) changeFunction(f *api.Func) {
	n := pick(g, []int{1, 10, 15, 17, 18, 19, 20, 21, 22})
	switch g.random.IntN(8) {
	case 0:
		f.Value = wrap(n, f.Value, wrappers()[pick(g, []string{"-", "left", "right", "condition", "second"})])
	case 1:
		f.Body = nest(n, f.Body, func(l []api.Stmt) api.Stmt { return conditional(l, nil) })
	case 2:
		f.Body = nest(n, f.Body, func(l []api.Stmt) api.Stmt { return api.Stmt{Kind: api.StmtWhile, Value: num(0), Then: l} })
	case 3:
		f.Body = nest(n, f.Body, func(l []api.Stmt) api.Stmt { return conditional(nil, l) })
	case 4:
		f.Params = f.Params[:len(f.Params)/2]
	default:
		f.Params = append(f.Params, "added")
	}
}

// change changes a few parts of a program.
func (g *generator) change(p *api.Program) {
	for range g.random.IntN(4) {
		if len(p.Funcs) > 0 && g.chance(5) {
			g.changeFunction(&p.Funcs[g.random.IntN(len(p.Funcs))])
			continue
		}
		g.changePart(p)
	}
}
