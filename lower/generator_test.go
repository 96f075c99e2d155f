package lower_test

import (
	"math"
	"math/rand/v2"
	"slices"

	"fulling/api"
)

// generator makes programs that are valid but for their nesting, most of which run for a while before they trap.
type generator struct {
	random    *rand.Rand
	arrays    []api.Array
	funcs     []api.Func
	variables []string
	// budget is the number of statements that may still be made in the current function.
	budget int
	// depth is the number of nodes in which the next one is nested, and deepest the most of them.
	depth, deepest int
}

func newGenerator(seed uint64) *generator {
	return &generator{random: rand.New(rand.NewPCG(seed, 8))}
}

func pick[T any](g *generator, l []T) T {
	return l[g.random.IntN(len(l))]
}

// chance is true once in n times on average.
func (g *generator) chance(n int) bool {
	return g.random.IntN(n) == 0
}

// more decides whether to make a statement with others in it, or one after another.
func (g *generator) more() bool {
	g.budget--
	return g.budget > 0 && !g.chance(4)
}

// names returns up to n of the names.
func (g *generator) names(n int, from ...string) []string {
	var l []string
	for _, i := range g.random.Perm(len(from))[:g.random.IntN(n+1)] {
		l = append(l, from[i])
	}
	return l
}

// program makes functions with equal names of variables, and arrays with names of functions.
func (g *generator) program() api.Program {
	for _, name := range append(g.names(2, "y", "g", "z"), "x") {
		g.arrays = append(g.arrays, api.Array{Name: name, Len: 1 + g.random.IntN(api.MaxLen)})
	}
	for _, name := range append(g.names(2, "g", "h", "a"), "f") {
		g.funcs = append(g.funcs, api.Func{Name: name, Params: g.names(3, "a", "b", "c"), Locals: append(g.names(2, "d", "e", "h"), "i")})
	}
	for i := range g.funcs {
		f := &g.funcs[i]
		g.variables = slices.Concat(f.Params, f.Locals)
		g.budget, g.deepest = 20+g.random.IntN(20), pick(g, []int{1, 2, 3, 6})
		f.Body, f.Value = g.statements(), g.expression()
	}
	return api.Program{Arrays: g.arrays, Funcs: g.funcs}
}

func (g *generator) statements() []api.Stmt {
	l := []api.Stmt{g.statement()}
	for g.more() {
		l = append(l, g.statement())
	}
	return l
}

func (g *generator) statement() api.Stmt {
	switch g.random.IntN(9) {
	case 0, 1:
		return api.Stmt{Kind: api.StmtAssign, Name: pick(g, g.variables), Value: g.expression()}
	case 2:
		a := pick(g, g.arrays)
		return api.Stmt{Kind: api.StmtStore, Name: a.Name, At: g.index(a), Value: g.expression()}
	case 3, 4:
		if g.more() {
			return g.alternatives()
		}
	case 5:
		if g.more() {
			return g.loop()
		}
	case 6:
		return g.call()
	case 7:
		if g.chance(4) {
			return api.Stmt{Kind: api.StmtTrap, N: pick(g, []int{0, 1, 5, 1000000})}
		}
	}
	return api.Stmt{Kind: api.StmtOut, Value: g.expression()}
}

// alternatives makes some that are the same.
func (g *generator) alternatives() api.Stmt {
	s := api.Stmt{Kind: api.StmtIf, Value: g.expression(), Then: g.statements()}
	switch g.random.IntN(4) {
	case 0:
	case 1:
		s.Else = s.Then
	default:
		s.Else = g.statements()
	}
	return s
}

// loop makes a loop whose condition often becomes 0.
func (g *generator) loop() api.Stmt {
	s := api.Stmt{Kind: api.StmtWhile, Value: g.expression(), Then: g.statements()}
	if !g.chance(4) {
		counter := pick(g, g.variables)
		s.Value = operation(api.OpLt, variable(counter), num(int64(g.random.IntN(6))))
		next := operation(api.OpAdd, variable(counter), num(1))
		s.Then = append(s.Then, api.Stmt{Kind: api.StmtAssign, Name: counter, Value: next})
	}
	return s
}

func (g *generator) call() api.Stmt {
	f := pick(g, g.funcs)
	s := api.Stmt{Kind: api.StmtCall, Name: pick(g, g.variables), To: f.Name}
	for range f.Params {
		s.Args = append(s.Args, g.expression())
	}
	return s
}

// index makes an index that is mostly within the bounds.
func (g *generator) index(a api.Array) api.Expr {
	if g.chance(12) {
		return g.expression()
	}
	if g.chance(3) {
		return num(int64(g.random.IntN(a.Len)))
	}
	// This remainder is not negative.
	e := operation(api.OpShr, g.expression(), num(1))
	return operation(api.OpRem, e, num(int64(a.Len)))
}

// divisor makes a divisor that is mostly not 0.
func (g *generator) divisor() api.Expr {
	if g.chance(6) {
		return g.expression()
	}
	return operation(api.OpOr, g.expression(), num(1))
}

func (g *generator) expression() api.Expr {
	g.depth++
	defer func() { g.depth-- }()
	if g.depth > g.deepest || g.chance(3) {
		return g.leaf()
	}
	switch g.random.IntN(5) {
	case 0, 1:
		op := api.OpAdd + g.random.IntN(api.OpLe-api.OpAdd+1)
		if op == api.OpDiv || op == api.OpRem {
			return operation(op, g.expression(), g.divisor())
		}
		return operation(op, g.expression(), g.expression())
	case 2:
		return operation(pick(g, []int{api.OpNeg, api.OpNot}), g.expression())
	case 3:
		return choice(g.expression(), g.expression(), g.expression())
	}
	a := pick(g, g.arrays)
	return element(a.Name, g.index(a))
}

func (g *generator) leaf() api.Expr {
	if !g.chance(3) {
		return variable(pick(g, g.variables))
	}
	return num(pick(g, []int64{0, 1, 2, 5, -1, -5, 64, math.MaxInt64, math.MinInt64}))
}

// arguments makes arguments for the function f of a program.
func (g *generator) arguments(p api.Program) []int64 {
	f := p.Funcs[slices.IndexFunc(p.Funcs, func(f api.Func) bool { return f.Name == "f" })]
	var args []int64
	for range f.Params {
		args = append(args, pick(g, []int64{0, 0, 1, 2, 3, 7, -1, -8, 100, math.MaxInt64, math.MinInt64}))
	}
	return args
}
