package parser_test

import (
	"math/rand/v2"
	"strconv"

	"fulling/api"
)

// generator makes programs as tokens, rule by rule, each with its syntax tree.
type generator struct {
	random *rand.Rand
	tokens []string
	// budget is the number of parts with parts of their own that may still be made.
	budget int
}

func newGenerator(seed uint64) *generator {
	return &generator{random: rand.New(rand.NewPCG(seed, 1)), budget: 40}
}

// chance is true once in n times on average.
func (g *generator) chance(n int) bool {
	return g.random.IntN(n) == 0
}

// more decides whether to make one of the parts for which there is a budget.
func (g *generator) more(n int) bool {
	if g.budget == 0 || !g.chance(n) {
		return false
	}
	g.budget--
	return true
}

func (g *generator) emit(tokens ...string) {
	g.tokens = append(g.tokens, tokens...)
}

func (g *generator) name() string {
	names := []string{"a", "b", "c", "x", "y", "f", "g", "i", "iff", "_1", "returned", "abcdefghijklmnop"}
	name := names[g.random.IntN(len(names))]
	g.emit(name)
	return name
}

func (g *generator) number() int {
	numbers := []int{0, 1, 2, 7, 10, 16, 999999, 1000000}
	n := numbers[g.random.IntN(len(numbers))]
	g.emit(strconv.Itoa(n))
	return n
}

func (g *generator) separator() string {
	separators := []string{" ", "  ", "\n", "\t", "\r\n", "# if\n", " #\n", "\n  "}
	return separators[g.random.IntN(len(separators))]
}

func (g *generator) program() api.Program {
	var p api.Program
	for range 1 + g.random.IntN(4) {
		if g.chance(3) {
			g.emit("array")
			name := g.name()
			p.Arrays = append(p.Arrays, api.Array{Name: name, Len: g.number()})
			g.emit(";")
		} else {
			p.Funcs = append(p.Funcs, g.function())
		}
	}
	return p
}

func (g *generator) function() api.Func {
	g.emit("func")
	f := api.Func{Name: g.name()}
	g.emit("(")
	f.Params = g.names(g.random.IntN(4))
	g.emit(")")
	if g.chance(2) {
		g.emit("var")
		f.Locals = g.names(1 + g.random.IntN(3))
	}
	g.emit("{")
	f.Body = g.stmts()
	g.emit("return")
	f.Value = g.expr()
	g.emit(";", "}")
	return f
}

func (g *generator) names(n int) []string {
	var names []string
	for i := range n {
		if i > 0 {
			g.emit(",")
		}
		names = append(names, g.name())
	}
	return names
}

func (g *generator) stmts() []api.Stmt {
	var stmts []api.Stmt
	for g.more(2) || g.more(2) {
		stmts = append(stmts, g.stmt(api.StmtAssign+g.random.IntN(api.StmtTrap)))
	}
	return stmts
}

func (g *generator) block() []api.Stmt {
	g.emit("{")
	defer g.emit("}")
	return g.stmts()
}

func (g *generator) stmt(kind int) api.Stmt {
	s := api.Stmt{Kind: kind}
	switch kind {
	case api.StmtIf:
		g.emit("if", "(")
		s.Value = g.expr()
		g.emit(")")
		s.Then = g.block()
		if g.chance(2) {
			g.emit("else")
			s.Else = g.block()
		}
		return s
	case api.StmtWhile:
		g.emit("while", "(")
		s.Value = g.expr()
		g.emit(")")
		s.Then = g.block()
		return s
	case api.StmtAssign:
		s.Name = g.name()
		g.emit("=")
		s.Value = g.expr()
	case api.StmtStore:
		s.Name = g.name()
		s.At = g.index()
		g.emit("=")
		s.Value = g.expr()
	case api.StmtOut:
		g.emit("out")
		s.Value = g.expr()
	case api.StmtCall:
		s.Name = g.name()
		g.emit("=")
		s.To = g.name()
		s.Args = g.args()
	case api.StmtTrap:
		g.emit("trap")
		s.N = g.number()
	}
	g.emit(";")
	return s
}

func (g *generator) args() []api.Expr {
	g.emit("(")
	defer g.emit(")")
	var args []api.Expr
	for i := range g.random.IntN(4) {
		if i > 0 {
			g.emit(",")
		}
		args = append(args, g.expr())
	}
	return args
}

func (g *generator) index() api.Expr {
	g.emit("[")
	defer g.emit("]")
	return g.expr()
}

func (g *generator) expr() api.Expr {
	condition := g.level(binaryLevels())
	if !g.more(4) {
		return condition
	}
	g.emit("?")
	first := g.expr()
	g.emit(":")
	return choice(condition, first, g.expr())
}

// level makes operands of the higher levels with operators of the first level between them.
func (g *generator) level(levels [][]binaryOperator) api.Expr {
	if len(levels) == 0 {
		return g.prefixed()
	}
	left := g.level(levels[1:])
	for g.more(8) {
		o := levels[0][g.random.IntN(len(levels[0]))]
		g.emit(o.symbol)
		left = o.apply(left, g.level(levels[1:]))
	}
	return left
}

func (g *generator) prefixed() api.Expr {
	if !g.more(4) {
		return g.operand()
	}
	switch g.random.IntN(4) {
	case 0:
		g.emit("~")
		return operation(api.OpNot, g.prefixed())
	case 1:
		g.emit("!")
		return operation(api.OpEq, g.prefixed(), num(0))
	case 2:
		g.emit("-", "9223372036854775808")
		return num(-1 << 63)
	}
	g.emit("-")
	first := len(g.tokens)
	operand := g.prefixed()
	// An operand whose first token is a number is this number.
	if c := g.tokens[first][0]; c >= '0' && c <= '9' {
		return num(-operand.N)
	}
	return operation(api.OpNeg, operand)
}

func (g *generator) operand() api.Expr {
	switch {
	case g.more(5):
		g.emit("(")
		defer g.emit(")")
		return g.expr()
	case g.more(5):
		name := g.name()
		return element(name, g.index())
	case g.chance(2):
		return variable(g.name())
	}
	words := []int64{0, 1, 2, 63, 64, 1000001, 1 << 62, 1<<63 - 1}
	n := words[g.random.IntN(len(words))]
	g.emit(strconv.FormatInt(n, 10))
	return num(n)
}
