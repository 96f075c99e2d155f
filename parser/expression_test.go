package parser_test

import (
	"math"
	"strings"
	"testing"

	"fulling/api"
	"fulling/parser"
)

// expressionPlace is a program around an expression, and where its syntax tree has this expression.
type expressionPlace struct {
	before, after string
	find          func(f api.Func) api.Expr
}

func expressionPlaces() []expressionPlace {
	return []expressionPlace{
		{"func f() { return ", "; }", func(f api.Func) api.Expr { return f.Value }},
		{"func f() { x = ", "; return 0; }", func(f api.Func) api.Expr { return f.Body[0].Value }},
		{"func f() { x = g(", "); return 0; }", func(f api.Func) api.Expr { return f.Body[0].Args[0] }},
		{"func f() { x = g(1, ", ", 2); return 0; }", func(f api.Func) api.Expr { return f.Body[0].Args[1] }},
		{"func f() { x[", "] = 0; return 0; }", func(f api.Func) api.Expr { return f.Body[0].At }},
		{"func f() { x[0] = ", "; return 0; }", func(f api.Func) api.Expr { return f.Body[0].Value }},
		{"func f() { if (", ") { } return 0; }", func(f api.Func) api.Expr { return f.Body[0].Value }},
		{"func f() { while (", ") { } return 0; }", func(f api.Func) api.Expr { return f.Body[0].Value }},
		{"func f() { out ", "; return 0; }", func(f api.Func) api.Expr { return f.Body[0].Value }},
		{"func f() { return (", "); }", func(f api.Func) api.Expr { return f.Value }},
		{"func f() { return x[", "]; }", func(f api.Func) api.Expr { return f.Value.Kids[0] }},
		{"func f() { return a ? ", " : b; }", func(f api.Func) api.Expr { return f.Value.Kids[1] }},
		{"func f() { return a ? b : ", "; }", func(f api.Func) api.Expr { return f.Value.Kids[2] }},
	}
}

// checkExpr parses an expression at each place where an expression may stand.
func checkExpr(t *testing.T, s string, want api.Expr) {
	t.Helper()
	for _, place := range expressionPlaces() {
		program, err := parser.Parse(place.before + s + place.after)
		if err != (api.Err{}) {
			t.Errorf("Parse(%q) returns %v", excerpt(place.before+s+place.after), err)
			continue
		}
		if got := place.find(program.Funcs[0]); !sameExpr(got, want) {
			t.Errorf("%q in %q is %v, want %v", excerpt(s), place.before+".."+place.after, got, want)
		}
	}
}

// checkExprError parses an expression with a marked syntax error at each place where an expression may stand.
func checkExprError(t *testing.T, s string) {
	t.Helper()
	for _, place := range expressionPlaces() {
		checkMarkedError(t, place.before+s+place.after)
	}
}

// binaryOperator is a binary operator as the chapter describes it.
type binaryOperator struct {
	symbol    string
	op        int
	exchanged bool
}

func (o binaryOperator) apply(left, right api.Expr) api.Expr {
	if o.exchanged {
		return operation(o.op, right, left)
	}
	return operation(o.op, left, right)
}

// binaryLevels lists the binary operators from the lowest precedence to the highest.
func binaryLevels() [][]binaryOperator {
	return [][]binaryOperator{
		{{"|", api.OpOr, false}},
		{{"^", api.OpXor, false}},
		{{"&", api.OpAnd, false}},
		{{"==", api.OpEq, false}, {"!=", api.OpNe, false}},
		{{"<", api.OpLt, false}, {"<=", api.OpLe, false}, {">", api.OpLt, true}, {">=", api.OpLe, true}},
		{{"<<", api.OpShl, false}, {">>", api.OpSar, false}, {">>>", api.OpShr, false}},
		{{"+", api.OpAdd, false}, {"-", api.OpSub, false}},
		{{"*", api.OpMul, false}, {"/", api.OpDiv, false}, {"%", api.OpRem, false}},
	}
}

// prefixOperators lists the prefix operators with the trees that they build.
func prefixOperators() map[string]func(api.Expr) api.Expr {
	return map[string]func(api.Expr) api.Expr{
		"-": func(e api.Expr) api.Expr { return operation(api.OpNeg, e) },
		"~": func(e api.Expr) api.Expr { return operation(api.OpNot, e) },
		"!": func(e api.Expr) api.Expr { return operation(api.OpEq, e, num(0)) },
	}
}

// 3.2
func TestOperands(t *testing.T) {
	checkExpr(t, "0", num(0))
	checkExpr(t, "42", num(42))
	checkExpr(t, "1000001", num(1000001))
	checkExpr(t, "a", variable("a"))
	checkExpr(t, "abcdefghijklmnop", variable("abcdefghijklmnop"))
	checkExpr(t, "x[0]", element("x", num(0)))
	checkExpr(t, "x[y[z[a]]]", element("x", element("y", element("z", variable("a")))))
	checkExpr(t, "x[a + 1]", element("x", operation(api.OpAdd, variable("a"), num(1))))
	checkExpr(t, "x[a ? b : c]", element("x", choice(variable("a"), variable("b"), variable("c"))))
	checkExpr(t, "x\n[ # ]\n0 ]", element("x", num(0)))
}

// 3.2
func TestParenthesesCreateNoNode(t *testing.T) {
	checkExpr(t, "(a)", variable("a"))
	checkExpr(t, "((((7))))", num(7))
	checkExpr(t, "(x[(a)])", element("x", variable("a")))
	checkExpr(t, "(a + b)", operation(api.OpAdd, variable("a"), variable("b")))
	checkExpr(t, "((a) + ((b)))", operation(api.OpAdd, variable("a"), variable("b")))
	checkExpr(t, "(a ? b : c)", choice(variable("a"), variable("b"), variable("c")))
	checkExpr(t, "(-5)", num(-5))
	checkExpr(t, "(9223372036854775807)", num(math.MaxInt64))
}

// 3.2
func TestEachBinaryOperator(t *testing.T) {
	a, b := variable("a"), variable("b")
	for _, level := range binaryLevels() {
		for _, o := range level {
			checkExpr(t, "a "+o.symbol+" b", o.apply(a, b))
			checkExpr(t, "a"+o.symbol+"b", o.apply(a, b))
			checkExpr(t, "1"+o.symbol+"x[2]", o.apply(num(1), element("x", num(2))))
			checkExpr(t, "b "+o.symbol+" a", o.apply(b, a))
		}
	}
}

// 3.2
func TestGreaterExchangesItsOperands(t *testing.T) {
	a, b, c := variable("a"), variable("b"), variable("c")
	checkExpr(t, "a > 1", operation(api.OpLt, num(1), a))
	checkExpr(t, "a >= 1", operation(api.OpLe, num(1), a))
	checkExpr(t, "a > b > c", operation(api.OpLt, c, operation(api.OpLt, b, a)))
	checkExpr(t, "a >= b > c", operation(api.OpLt, c, operation(api.OpLe, b, a)))
	checkExpr(t, "a < b >= c", operation(api.OpLe, c, operation(api.OpLt, a, b)))
	checkExpr(t, "a >= b <= c", operation(api.OpLe, operation(api.OpLe, b, a), c))
	checkExpr(t, "a > (b > c)", operation(api.OpLt, operation(api.OpLt, c, b), a))
	checkExpr(t, "a + b > c >> a", operation(api.OpLt, operation(api.OpSar, c, a), operation(api.OpAdd, a, b)))
}

// 3.2
func TestEachPairOfBinaryOperators(t *testing.T) {
	a, b, c := variable("a"), variable("b"), variable("c")
	for i, first := range binaryLevels() {
		for j, second := range binaryLevels() {
			for _, o := range first {
				for _, p := range second {
					leftFirst, rightFirst := p.apply(o.apply(a, b), c), o.apply(a, p.apply(b, c))
					want := leftFirst
					if j > i {
						want = rightFirst
					}
					checkExpr(t, "a "+o.symbol+" b "+p.symbol+" c", want)
					checkExpr(t, "(a "+o.symbol+" b) "+p.symbol+" c", leftFirst)
					checkExpr(t, "a "+o.symbol+" (b "+p.symbol+" c)", rightFirst)
				}
			}
		}
	}
}

// 3.2
func TestChainsOfOneOperatorAssociateToTheLeft(t *testing.T) {
	for _, level := range binaryLevels() {
		for _, o := range level {
			want := variable("a")
			for range 5 {
				want = o.apply(want, variable("a"))
			}
			checkExpr(t, "a"+strings.Repeat(" "+o.symbol+" a", 5), want)
		}
	}
}

// 3.2
func TestAllLevelsInOneExpression(t *testing.T) {
	a := variable("a")
	rising, falling := "a", "a"
	risingTree, fallingTree := a, a
	levels := binaryLevels()
	for i := range levels {
		falling += " " + levels[len(levels)-1-i][0].symbol + " a"
		fallingTree = levels[len(levels)-1-i][0].apply(fallingTree, a)
		rising = "a " + levels[len(levels)-1-i][0].symbol + " " + rising
		risingTree = levels[len(levels)-1-i][0].apply(a, risingTree)
	}
	checkExpr(t, rising, risingTree)
	checkExpr(t, falling, fallingTree)
}

// 3.2
func TestPrefixOperators(t *testing.T) {
	for symbol, build := range prefixOperators() {
		checkExpr(t, symbol+"a", build(variable("a")))
		checkExpr(t, symbol+" # 1\n a", build(variable("a")))
		checkExpr(t, symbol+"x[0]", build(element("x", num(0))))
		checkExpr(t, symbol+"(5)", build(num(5)))
		checkExpr(t, symbol+"(-5)", build(num(-5)))
		checkExpr(t, symbol+"-5", build(num(-5)))
		checkExpr(t, symbol+"(a + b)", build(operation(api.OpAdd, variable("a"), variable("b"))))
		checkExpr(t, symbol+"a ? b : c", choice(build(variable("a")), variable("b"), variable("c")))
		checkExpr(t, symbol+"(a ? b : c)", build(choice(variable("a"), variable("b"), variable("c"))))
		for other, buildOther := range prefixOperators() {
			checkExpr(t, symbol+other+"a", build(buildOther(variable("a"))))
			checkExpr(t, symbol+" "+other+" "+symbol+"a", build(buildOther(build(variable("a")))))
		}
	}
	checkExpr(t, "~5", operation(api.OpNot, num(5)))
	checkExpr(t, "!5", operation(api.OpEq, num(5), num(0)))
	checkExpr(t, "!0", operation(api.OpEq, num(0), num(0)))
}

// 3.2
func TestPrefixOperatorsBindMoreTightlyThanBinaryOperators(t *testing.T) {
	a, b := variable("a"), variable("b")
	for symbol, build := range prefixOperators() {
		for _, level := range binaryLevels() {
			for _, o := range level {
				checkExpr(t, symbol+"a "+o.symbol+" b", o.apply(build(a), b))
				checkExpr(t, "a "+o.symbol+" "+symbol+"b", o.apply(a, build(b)))
				checkExpr(t, symbol+"a "+o.symbol+" "+symbol+"b", o.apply(build(a), build(b)))
				checkExpr(t, symbol+"(a "+o.symbol+" b)", build(o.apply(a, b)))
			}
		}
	}
}

// 3.2
func TestPrefixMinusBeforeANumber(t *testing.T) {
	a := variable("a")
	negate := func(e api.Expr) api.Expr { return operation(api.OpNeg, e) }
	checkExpr(t, "-5", num(-5))
	checkExpr(t, "- 5", num(-5))
	checkExpr(t, "-#\n5", num(-5))
	checkExpr(t, "-0", num(0))
	checkExpr(t, "- -0", negate(num(0)))
	checkExpr(t, "- -5", negate(num(-5)))
	checkExpr(t, "--5", negate(num(-5)))
	checkExpr(t, "---5", negate(negate(num(-5))))
	checkExpr(t, "-(5)", negate(num(5)))
	checkExpr(t, "-(0)", negate(num(0)))
	checkExpr(t, "-~5", negate(operation(api.OpNot, num(5))))
	checkExpr(t, "-!5", negate(operation(api.OpEq, num(5), num(0))))
	checkExpr(t, "~-5", operation(api.OpNot, num(-5)))
	checkExpr(t, "!-5", operation(api.OpEq, num(-5), num(0)))
	checkExpr(t, "2 - 3", operation(api.OpSub, num(2), num(3)))
	checkExpr(t, "2-3", operation(api.OpSub, num(2), num(3)))
	checkExpr(t, "2 -3", operation(api.OpSub, num(2), num(3)))
	checkExpr(t, "2 - -3", operation(api.OpSub, num(2), num(-3)))
	checkExpr(t, "2--3", operation(api.OpSub, num(2), num(-3)))
	checkExpr(t, "2---3", operation(api.OpSub, num(2), negate(num(-3))))
	checkExpr(t, "2 + -3 - -4", operation(api.OpSub, operation(api.OpAdd, num(2), num(-3)), num(-4)))
	checkExpr(t, "-2 * -3", operation(api.OpMul, num(-2), num(-3)))
	checkExpr(t, "(2) - 3", operation(api.OpSub, num(2), num(3)))
	checkExpr(t, "a -3", operation(api.OpSub, a, num(3)))
	checkExpr(t, "x[0] -3", operation(api.OpSub, element("x", num(0)), num(3)))
	checkExpr(t, "x[-3]", element("x", num(-3)))
	checkExpr(t, "a ? -1 : -2", choice(a, num(-1), num(-2)))
	checkExpr(t, "-1 ? a : a", choice(num(-1), a, a))
	for _, level := range binaryLevels() {
		for _, o := range level {
			checkExpr(t, "-2 "+o.symbol+" -3", o.apply(num(-2), num(-3)))
			checkExpr(t, "a "+o.symbol+" - 9223372036854775808", o.apply(a, num(math.MinInt64)))
			checkExprError(t, "a "+o.symbol+" @9223372036854775808")
			checkExprError(t, "-9223372036854775808 "+o.symbol+" @9223372036854775808")
		}
	}
}

// 3.2, 3.3
func TestEndsOfTheRangeOfNumbers(t *testing.T) {
	checkExpr(t, "9223372036854775806", num(math.MaxInt64-1))
	checkExpr(t, "9223372036854775807", num(math.MaxInt64))
	checkExpr(t, "-9223372036854775807", num(-math.MaxInt64))
	checkExpr(t, "-9223372036854775808", num(math.MinInt64))
	checkExpr(t, "- 9223372036854775808", num(math.MinInt64))
	checkExpr(t, "- -9223372036854775808", operation(api.OpNeg, num(math.MinInt64)))
	checkExpr(t, "~-9223372036854775808", operation(api.OpNot, num(math.MinInt64)))
	checkExpr(t, "(-9223372036854775808)", num(math.MinInt64))
	checkExpr(t, "1 - -9223372036854775808", operation(api.OpSub, num(1), num(math.MinInt64)))
	for _, s := range []string{
		"@9223372036854775808", "(@9223372036854775808)", "-(@9223372036854775808)", "~@9223372036854775808", "!@9223372036854775808",
		"-~@9223372036854775808", "1 - @9223372036854775808", "1 -@9223372036854775808", "a - @9223372036854775808 - 1", "(a) - @9223372036854775808",
		"x[0] - @9223372036854775808", "x[@9223372036854775808]", "@9223372036854775808 ? 1 : 2", "1 ? @9223372036854775808 : 2",
		"1 ? 2 : @9223372036854775808", "-9223372036854775808 - @9223372036854775808", "@9223372036854775808 9223372036854775808",
	} {
		checkExprError(t, s)
	}
	checkError(t, "func f() { return 9223372036854775809; }", api.ErrSyntax, 18)
	checkError(t, "func f() { return -9223372036854775809; }", api.ErrSyntax, 19)
}

// 3.2
func TestConditionalExpressions(t *testing.T) {
	a, b, c, d, e := variable("a"), variable("b"), variable("c"), variable("d"), variable("e")
	checkExpr(t, "a ? b : c", choice(a, b, c))
	checkExpr(t, "a?b:c", choice(a, b, c))
	checkExpr(t, "a ? b : c ? d : e", choice(a, b, choice(c, d, e)))
	checkExpr(t, "a ? b : (c ? d : e)", choice(a, b, choice(c, d, e)))
	checkExpr(t, "(a ? b : c) ? d : e", choice(choice(a, b, c), d, e))
	checkExpr(t, "a ? b ? c : d : e", choice(a, choice(b, c, d), e))
	checkExpr(t, "a ? (b ? c : d) : e", choice(a, choice(b, c, d), e))
	checkExpr(t, "a ? b ? c : d : e ? a : b", choice(a, choice(b, c, d), choice(e, a, b)))
	checkExpr(t, "a ? b ? c ? 1 : 2 : 3 : 4", choice(a, choice(b, choice(c, num(1), num(2)), num(3)), num(4)))
	checkExpr(t, "a ? 1 : b ? 2 : c ? 3 : 4", choice(a, num(1), choice(b, num(2), choice(c, num(3), num(4)))))
	checkExpr(t, "((a ? b : c) ? d : e) ? 1 : 2", choice(choice(choice(a, b, c), d, e), num(1), num(2)))
	checkExpr(t, "-(a ? b : c)", operation(api.OpNeg, choice(a, b, c)))
}

// 3.2
func TestConditionalExpressionsHaveTheLowestPrecedence(t *testing.T) {
	a, b, c, d := variable("a"), variable("b"), variable("c"), variable("d")
	for _, level := range binaryLevels() {
		for _, o := range level {
			s := " " + o.symbol + " "
			checkExpr(t, "a"+s+"b ? c : d", choice(o.apply(a, b), c, d))
			checkExpr(t, "a"+s+"(b ? c : d)", o.apply(a, choice(b, c, d)))
			checkExpr(t, "a ? b"+s+"c : d", choice(a, o.apply(b, c), d))
			checkExpr(t, "a ? b : c"+s+"d", choice(a, b, o.apply(c, d)))
			checkExpr(t, "(a ? b : c)"+s+"d", o.apply(choice(a, b, c), d))
			checkExpr(t, "a ? b : c"+s+"d ? a : b", choice(a, b, choice(o.apply(c, d), a, b)))
		}
	}
}

// 3.2, 3.3
func TestCallsAreNoExpressions(t *testing.T) {
	for _, s := range []string{
		"1 + g@()", "-g@(1)", "(g@())", "x[g@()]", "x[0] @()", "(g)@()", "a ? g@() : 1", "a ? 1 : g@()", "1@(2)", "a + g \n@(a)",
	} {
		checkExprError(t, s)
	}
	for _, place := range expressionPlaces() {
		// Behind a variable and `=`, a name and a parenthesis start a call.
		if !strings.HasSuffix(place.before, "{ x = ") {
			checkMarkedError(t, place.before+"g@()"+place.after)
			checkMarkedError(t, place.before+"g@(a) + 1"+place.after)
		}
	}
	for _, s := range []string{
		"x = f() @+ 1;", "x = f(1) @* 2;", "x = f() @? 1 : 2;", "x = f()@[0];", "x = f()@(1);", "x = f() @f;", "x = (f@());", "x = -f@();",
		"f@();", "f@(1);", "x[0] = f@();", "x = y @= f();", "x = f(g@());", "x = f(1, g@());", "x = x[f@()];", "x = @while();", "x = 1@();",
		"out f@();", "if (f@()) { }", "while (f@()) { }",
	} {
		checkMarkedError(t, "func f() { "+s+" return 0; }")
	}
}

// 3.2, 3.3
func TestInvalidExpressions(t *testing.T) {
	for _, s := range []string{
		"a @b", "a @1", "1 @a", "1 @1", "a @~ b", "a @! b", "a @= b", "a + @+ b", "a + @* b", "a - - - @/ b", "@* a", "@+ a", "@/ 2", "@| a",
		"a ? @? b", "a ? @: b", "a ? b @, c : a", "a ? b : @: c", "@? a : b", "a ? b : @? c : d", "a ? (b @: c)", "(a ? b : c @: d)", "(a @: b)",
		"(@)", "x[@]", "x[0@, 1]", "x[0@)", "(a@]", "(x[0]@]", "x[0]@[1]", "(x)@[0]", "1@[0]", "-5@[0]", "x@{0}",
		"a == @= b", "a & @& b", "a | @| b", "a < @> b", "a >>> @> b", "a << @< b", "a @! = b", "a > @> b", "a @= = b",
		"@{a}", "(a@, b)", "(a @; b)", "@;", "@}", "@return",
	} {
		checkExprError(t, s)
	}
	checkMarkedError(t, "func f() { return a @: b; }")
	checkMarkedError(t, "func f() { return a ? b : c @: d; }")
	checkMarkedError(t, "func f() { return a @, b; }")
	checkMarkedError(t, "func f() { return a @) b; }")
	checkMarkedError(t, "func f() { return a @] b; }")
}
