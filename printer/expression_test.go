package printer_test

import (
	"math"
	"strconv"
	"strings"
	"testing"

	"fulling/api"
)

func num(n int64) api.Expr {
	return api.Expr{Kind: api.ExprNum, N: n}
}

func variable(name string) api.Expr {
	return api.Expr{Kind: api.ExprVar, Name: name}
}

func element(name string, index api.Expr) api.Expr {
	return api.Expr{Kind: api.ExprIndex, Name: name, Kids: []api.Expr{index}}
}

func operation(op int, kids ...api.Expr) api.Expr {
	return api.Expr{Kind: api.ExprOp, Op: op, Kids: kids}
}

func choice(kids ...api.Expr) api.Expr {
	return api.Expr{Kind: api.ExprCond, Kids: kids}
}

// returning is a program with this expression as the value of its function.
func returning(value api.Expr) api.Program {
	return api.Program{
		Arrays: []api.Array{{Name: "x", Len: 2}},
		Funcs:  []api.Func{{Name: "f", Params: []string{"a", "b"}, Value: value}},
	}
}

// checkExpression checks the text of an expression, and that the parser reads it as this expression.
func checkExpression(t *testing.T, e api.Expr, want string) {
	t.Helper()
	p := returning(e)
	checkTree(t, p, text("array x 2;", "func f(a, b) {", "  return "+want+";", "}"))
	checkParsed(t, p)
}

func binaryOperators() map[int]string {
	return map[int]string{
		api.OpOr: "|", api.OpXor: "^", api.OpAnd: "&", api.OpEq: "==", api.OpNe: "!=", api.OpLt: "<", api.OpLe: "<=",
		api.OpShl: "<<", api.OpSar: ">>", api.OpShr: ">>>", api.OpAdd: "+", api.OpSub: "-", api.OpMul: "*", api.OpDiv: "/", api.OpRem: "%",
	}
}

// 5.2
func TestOperators(t *testing.T) {
	for op := api.OpAdd; op <= api.OpLe; op++ {
		symbol, ok := binaryOperators()[op]
		if !ok {
			t.Fatalf("the test has no symbol for operation %d", op)
		}
		checkExpression(t, operation(op, variable("a"), variable("b")), "a "+symbol+" b")
		checkExpression(t, operation(op, variable("b"), num(3)), "b "+symbol+" 3")
	}
	checkExpression(t, operation(api.OpNeg, variable("a")), "-a")
	checkExpression(t, operation(api.OpNot, variable("a")), "~a")
	checkExpression(t, choice(variable("a"), variable("b"), num(1)), "a ? b : 1")
	checkExpression(t, element("x", variable("a")), "x[a]")
}

// 5.2: what the parser makes of `>`, `>=` and `!` is printed with other operators.
func TestOtherOperators(t *testing.T) {
	for s, want := range map[string]string{
		"a>b": "b < a", "a>=b": "b <= a", "!a": "a == 0", "!!a": "(a == 0) == 0", "!(a>b)": "(b < a) == 0", "-!a": "-(a == 0)", "!-a": "(-a) == 0",
		"a<b": "a < b", "a<=b": "a <= b", "a==0": "a == 0",
	} {
		checkText(t, "func f(a,b){return "+s+";}", "func f(a, b) {", "  return "+want+";", "}")
	}
}

// 5.2: the precedences of a text are those of the parentheses.
func TestPrecedences(t *testing.T) {
	for s, want := range map[string]string{
		"a+b*2":         "a + (b * 2)",
		"(a+b)*2":       "(a + b) * 2",
		"a-b-2":         "(a - b) - 2",
		"a-(b-2)":       "a - (b - 2)",
		"a|b^a&b":       "a | (b ^ (a & b))",
		"a?b:a?1:2":     "a ? b : (a ? 1 : 2)",
		"a?b?1:2:a":     "a ? (b ? 1 : 2) : a",
		"(a?b:1)?2:3":   "(a ? b : 1) ? 2 : 3",
		"a<b?a+1:b*-2":  "(a < b) ? (a + 1) : (b * -2)",
		"-a+~b":         "(-a) + (~b)",
		"--a":           "-(-a)",
		"~~a":           "~(~a)",
		"-~a":           "-(~a)",
		"x[a]+x[(b)]":   "x[a] + x[b]",
		"x[a+b]":        "x[a + b]",
		"x[a?b:1]":      "x[a ? b : 1]",
		"-x[-x[~a]]":    "-x[-x[~a]]",
		"((a))":         "a",
		"(((a+(b))))":   "a + b",
		"a>>1>>>2<<b":   "((a >> 1) >>> 2) << b",
		"a==b!=a<b<=2":  "(a == b) != ((a < b) <= 2)",
		"a%b/2*3":       "((a % b) / 2) * 3",
		"-(5)":          "-(5)",
		"-5":            "-5",
		"- -5":          "-(-5)",
		"-(-5)":         "-(-5)",
		"~-5":           "~-5",
		"~(5)":          "~5",
		"2- -3":         "2 - -3",
		"2-(-(3))":      "2 - (-(3))",
		"-0":            "0",
		"-(0)":          "-(0)",
		"-5?-(5):- -5":  "-5 ? (-(5)) : (-(-5))",
		"x[-5]-x[-(5)]": "x[-5] - x[-(5)]",
	} {
		checkText(t, "array x 1;func f(a,b){return "+s+";}", "array x 1;", "func f(a, b) {", "  return "+want+";", "}")
	}
}

func numbers() []int64 {
	return []int64{0, 1, 5, 10, 63, 1000001, math.MaxInt64, -1, -5, -10, math.MinInt64 + 1, math.MinInt64}
}

// 5.2: numbers and their negations
func TestNumbers(t *testing.T) {
	for _, n := range numbers() {
		s := strconv.FormatInt(n, 10)
		checkExpression(t, num(n), s)
		checkExpression(t, operation(api.OpNeg, num(n)), "-("+s+")")
		checkExpression(t, operation(api.OpNot, num(n)), "~"+s)
		checkExpression(t, operation(api.OpSub, num(n), num(n)), s+" - "+s)
		checkExpression(t, operation(api.OpNeg, operation(api.OpNeg, num(n))), "-(-("+s+"))")
	}
}

// frame is an expression around another one, whose place in the text is at the `$`.
type frame struct {
	text   string
	around func(e api.Expr) api.Expr
}

func frames() []frame {
	a, b := variable("a"), variable("b")
	list := []frame{
		{"-$", func(e api.Expr) api.Expr { return operation(api.OpNeg, e) }},
		{"~$", func(e api.Expr) api.Expr { return operation(api.OpNot, e) }},
		{"x[$]", func(e api.Expr) api.Expr { return element("x", e) }},
		{"$ ? a : b", func(e api.Expr) api.Expr { return choice(e, a, b) }},
		{"a ? $ : b", func(e api.Expr) api.Expr { return choice(a, e, b) }},
		{"a ? b : $", func(e api.Expr) api.Expr { return choice(a, b, e) }},
	}
	for op, symbol := range binaryOperators() {
		list = append(list,
			frame{"$ " + symbol + " b", func(e api.Expr) api.Expr { return operation(op, e, b) }},
			frame{"a " + symbol + " $", func(e api.Expr) api.Expr { return operation(op, a, e) }})
	}
	return list
}

// written is an expression with its text.
type written struct {
	tree api.Expr
	text string
}

func leaves() []written {
	list := []written{{variable("a"), "a"}}
	for _, n := range []int64{0, 7, -7, math.MinInt64} {
		list = append(list, written{num(n), strconv.FormatInt(n, 10)})
	}
	return list
}

// framed puts each of the expressions into each frame.
func framed(list []written) []written {
	var result []written
	for _, f := range frames() {
		for _, inner := range list {
			operand := inner.text
			composed := inner.tree.Kind == api.ExprOp || inner.tree.Kind == api.ExprCond
			if composed && f.text != "x[$]" || inner.tree.Kind == api.ExprNum && f.text == "-$" {
				operand = "(" + operand + ")"
			}
			result = append(result, written{f.around(inner.tree), strings.ReplaceAll(f.text, "$", operand)})
		}
	}
	return result
}

// 5.2, 5.3: every expression at every place of every other one, two levels deep
func TestParentheses(t *testing.T) {
	once := framed(leaves())
	for _, list := range [][]written{leaves(), once, framed(once)} {
		for _, e := range list {
			checkExpression(t, e.tree, e.text)
		}
	}
}

// 5.2: the largest depth
func TestDeepestExpressions(t *testing.T) {
	for _, f := range frames() {
		e, want := variable("a"), "a"
		for i := range api.MaxDeep {
			if i > 0 && f.text != "x[$]" {
				want = "(" + want + ")"
			}
			e, want = f.around(e), strings.ReplaceAll(f.text, "$", want)
		}
		checkExpression(t, e, want)
	}
}

// 5.1, 5.2: an expression in parentheses or brackets, or at the end of a statement, needs no parentheses of its own.
func TestExpressionsInStatements(t *testing.T) {
	for _, e := range []string{"a ? b : 1", "a + b", "-a", "~a", "-(5)", "-5", "x[a]", "a"} {
		for _, line := range []string{"a = $;", "x[$] = $;", "out $;", "a = f($, $);"} {
			line = strings.ReplaceAll(line, "$", e)
			checkText(t, "array x 1;func f(a,b){"+line+"return 0;}", "array x 1;", "func f(a, b) {", "  "+line, "  return 0;", "}")
		}
		for _, line := range []string{"if ($) {", "while ($) {"} {
			line = strings.ReplaceAll(line, "$", e)
			checkText(t, "array x 1;func f(a,b){"+line+"}return 0;}", "array x 1;", "func f(a, b) {", "  "+line, "  }", "  return 0;", "}")
		}
	}
}
