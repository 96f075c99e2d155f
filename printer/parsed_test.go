package printer_test

import (
	"fmt"
	"math"
	"math/rand/v2"
	"reflect"
	"strconv"
	"strings"
	"testing"

	"fulling/api"
	"fulling/checker"
	"fulling/parser"
	"fulling/printer"
)

// checkParsed checks that the text of a program is read as this program. Its empty slices are nil.
func checkParsed(t *testing.T, p api.Program) {
	t.Helper()
	s := printer.Print(p)
	got, err := parser.Parse(s)
	if err != (api.Err{}) || !reflect.DeepEqual(got, p) {
		t.Errorf("Parse returns %v, %v for\n%s\nwhich is the text of %v", got, err, s, p)
	}
}

// generator makes programs that are valid but for their sizes.
type generator struct {
	random    *rand.Rand
	arrays    []api.Array
	funcs     []api.Func
	variables []string
	// budget is the number of statements and nodes with parts of their own that may still be made.
	budget int
}

func newGenerator(seed uint64) *generator {
	return &generator{random: rand.New(rand.NewPCG(seed, 3))}
}

func pick[T any](g *generator, l []T) T {
	return l[g.random.IntN(len(l))]
}

// more decides, once in n times on average, to make one of the parts for which there is a budget.
func (g *generator) more(n int) bool {
	if g.budget == 0 || g.random.IntN(n) > 0 {
		return false
	}
	g.budget--
	return true
}

// names returns up to n of the names.
func (g *generator) names(n int, from ...string) []string {
	var l []string
	for _, i := range g.random.Perm(len(from))[:g.random.IntN(n+1)] {
		l = append(l, from[i])
	}
	return l
}

// program makes an array whose name is also that of a function, but not of a variable, and other parts with equal names.
func (g *generator) program() api.Program {
	for _, name := range g.names(api.MaxArrays, "x", "y", "f", "out1", "abcdefghijklmnop") {
		g.arrays = append(g.arrays, api.Array{Name: name, Len: 1 + g.random.IntN(api.MaxLen)})
	}
	for _, name := range g.names(3, "f", "g", "h", "a", "_1") {
		f := api.Func{Name: name, Params: g.names(4, "a", "b", "g", "iff"), Locals: g.names(3, "c", "d", "h", "__")}
		g.funcs = append(g.funcs, f)
	}
	for i := range g.funcs {
		f := &g.funcs[i]
		g.variables = append(append([]string(nil), f.Params...), f.Locals...)
		g.budget = 30
		f.Body = g.statements()
		g.budget += 5
		f.Value = g.expression()
	}
	return api.Program{Arrays: g.arrays, Funcs: g.funcs}
}

func (g *generator) statements() []api.Stmt {
	var l []api.Stmt
	for g.more(2) || g.more(2) {
		l = append(l, g.statement())
	}
	return l
}

func (g *generator) statement() api.Stmt {
	kind := 1 + g.random.IntN(api.StmtTrap)
	s := api.Stmt{Kind: kind}
	switch {
	case kind == api.StmtAssign && len(g.variables) > 0:
		s.Name, s.Value = pick(g, g.variables), g.expression()
	case kind == api.StmtStore && len(g.arrays) > 0:
		s.Name, s.At, s.Value = pick(g, g.arrays).Name, g.expression(), g.expression()
	case kind == api.StmtIf:
		s.Value, s.Then, s.Else = g.expression(), g.statements(), g.statements()
	case kind == api.StmtWhile:
		s.Value, s.Then = g.expression(), g.statements()
	case kind == api.StmtCall && len(g.variables) > 0:
		f := pick(g, g.funcs)
		s.Name, s.To = pick(g, g.variables), f.Name
		for range f.Params {
			s.Args = append(s.Args, g.expression())
		}
	case kind == api.StmtTrap:
		s.N = pick(g, []int{0, 1, 999999, 1000000})
	default:
		return api.Stmt{Kind: api.StmtOut, Value: g.expression()}
	}
	return s
}

func (g *generator) expression() api.Expr {
	switch {
	case g.more(4):
		return operation(api.OpAdd+g.random.IntN(api.OpLe-api.OpAdd+1), g.expression(), g.expression())
	case g.more(6):
		return operation(pick(g, []int{api.OpNeg, api.OpNot}), g.expression())
	case g.more(8):
		return choice(g.expression(), g.expression(), g.expression())
	case len(g.arrays) > 0 && g.more(6):
		return element(pick(g, g.arrays).Name, g.expression())
	case len(g.variables) > 0 && g.random.IntN(2) == 0:
		return variable(pick(g, g.variables))
	}
	return num(pick(g, []int64{0, 1, 5, -1, -5, math.MaxInt64, math.MinInt64}))
}

// linesOf formats a program in another way than Print: as a list of lines, in which those of a body are shifted as a whole.
func linesOf(p api.Program) []string {
	var lines []string
	for _, a := range p.Arrays {
		lines = append(lines, fmt.Sprintf("array %s %d;", a.Name, a.Len))
	}
	for _, f := range p.Funcs {
		locals := ""
		if len(f.Locals) > 0 {
			locals = "var " + strings.Join(f.Locals, ", ") + " "
		}
		lines = append(lines, fmt.Sprintf("func %s(%s) %s{", f.Name, strings.Join(f.Params, ", "), locals))
		lines = append(lines, shifted(f.Body)...)
		lines = append(lines, "  return "+wordsOf(f.Value)+";", "}")
	}
	return lines
}

func shifted(body []api.Stmt) []string {
	var lines []string
	for _, s := range body {
		for _, line := range linesOfStatement(s) {
			lines = append(lines, "  "+line)
		}
	}
	return lines
}

func linesOfStatement(s api.Stmt) []string {
	switch s.Kind {
	case api.StmtAssign:
		return []string{fmt.Sprintf("%s = %s;", s.Name, wordsOf(s.Value))}
	case api.StmtStore:
		return []string{fmt.Sprintf("%s[%s] = %s;", s.Name, wordsOf(s.At), wordsOf(s.Value))}
	case api.StmtOut:
		return []string{fmt.Sprintf("out %s;", wordsOf(s.Value))}
	case api.StmtTrap:
		return []string{fmt.Sprintf("trap %d;", s.N)}
	case api.StmtCall:
		var args []string
		for _, e := range s.Args {
			args = append(args, wordsOf(e))
		}
		return []string{fmt.Sprintf("%s = %s(%s);", s.Name, s.To, strings.Join(args, ", "))}
	}
	lines := []string{fmt.Sprintf("%s (%s) {", map[int]string{api.StmtIf: "if", api.StmtWhile: "while"}[s.Kind], wordsOf(s.Value))}
	lines = append(lines, shifted(s.Then)...)
	if len(s.Else) > 0 {
		lines = append(lines, "} else {")
		lines = append(lines, shifted(s.Else)...)
	}
	return append(lines, "}")
}

func wordsOf(e api.Expr) string {
	var kids []string
	for _, kid := range e.Kids {
		s := wordsOf(kid)
		if kid.Kind >= api.ExprOp && e.Kind >= api.ExprOp || kid.Kind == api.ExprNum && e.Op == api.OpNeg {
			s = "(" + s + ")"
		}
		kids = append(kids, s)
	}
	switch {
	case e.Kind == api.ExprNum:
		return strconv.FormatInt(e.N, 10)
	case e.Kind == api.ExprVar:
		return e.Name
	case e.Kind == api.ExprIndex:
		return e.Name + "[" + kids[0] + "]"
	case e.Kind == api.ExprCond:
		return kids[0] + " ? " + kids[1] + " : " + kids[2]
	case e.Op == api.OpNeg:
		return "-" + kids[0]
	case e.Op == api.OpNot:
		return "~" + kids[0]
	}
	return kids[0] + " " + binaryOperators()[e.Op] + " " + kids[1]
}

// 5.1, 5.2, 5.3
func TestGeneratedPrograms(t *testing.T) {
	valid := 0
	for seed := range uint64(3000) {
		p := newGenerator(seed).program()
		if checker.Check(p) != api.OK {
			checkTree(t, p, "")
			continue
		}
		valid++
		checkTree(t, p, text(linesOf(p)...))
		checkParsed(t, p)
	}
	if valid < 2900 {
		t.Errorf("only %d of the programs are valid", valid)
	}
}

// programWithText has a text of n bytes, for n from 1000 to 30000.
func programWithText(n int) api.Program {
	var p api.Program
	for i := range api.MaxFuncs {
		p.Funcs = append(p.Funcs, api.Func{Name: "f" + strconv.Itoa(i), Value: num(0)})
	}
	for i := 0; ; i++ {
		rest := n - len(text(linesOf(p)...))
		if rest == 0 {
			return p
		}
		// The line of a number of 1 to 19 digits has 9 to 27 bytes, so that what is left after it is 0 or at least 9.
		size := min(rest, 27)
		if rest > 27 && rest < 36 {
			size = 18
		}
		f := &p.Funcs[i%len(p.Funcs)]
		f.Body = append(f.Body, api.Stmt{Kind: api.StmtOut, Value: num(int64(math.Pow10(size - 9)))})
	}
}

// 5.3: the longest text that the parser reads, and longer ones, which are complete too.
func TestLongTexts(t *testing.T) {
	for _, n := range []int{1000, api.MaxText - 1, api.MaxText, api.MaxText + 1, 30000} {
		p := programWithText(n)
		checkTree(t, p, text(linesOf(p)...))
		s := printer.Print(p)
		if len(s) != n {
			t.Errorf("the text has %d bytes, want %d", len(s), n)
		}
		if n <= api.MaxText {
			checkParsed(t, p)
		} else if _, err := parser.Parse(s); err != (api.Err{Why: api.ErrLimit, At: api.MaxText}) {
			t.Errorf("Parse returns %v for a text of %d bytes", err, n)
		}
	}
}
