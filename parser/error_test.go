package parser_test

import (
	"slices"
	"strings"
	"testing"

	"fulling/api"
	"fulling/lexer"
	"fulling/parser"
)

// everything is a program with every declaration, every statement, every prefix operator and some operators of each kind.
const everything = `array x 3; array y 16;
func f(a, b, c) var d, e {
  d = a; d = -1; e = f(d, -(b), c ? 1 : 2); e = g();
  x[a + 1] = b * y[c];
  if (a > b) { out !a; if (c) { } else { out 1; } } else { trap 3; while (~d >>> 2 < 7) { d = d - 1; } }
  while (1) { }
  out a ? b : c ? d : e;
  return (a | b ^ c) & -9223372036854775808;
}
func g() { return 0; }
array z 1000000;`

func tokensOf(t *testing.T, s string) []string {
	t.Helper()
	tokens, err := lexer.Scan(s)
	if err != (api.Err{}) {
		t.Fatalf("Scan(%q) returns %v", excerpt(s), err)
	}
	var texts []string
	for _, token := range tokens {
		texts = append(texts, token.Text)
	}
	return texts
}

// checkTokens compares the error for a text of these tokens with the grammar.
func checkTokens(t *testing.T, g *grammar, tokens []string, separator func() string) {
	t.Helper()
	s, offsets := joinTokens(tokens, separator)
	want := g.expectedError(tokens, offsets)
	got, err := parser.Parse(s)
	if err != want {
		t.Fatalf("Parse(%q) returns %v, want %v", excerpt(s), err, want)
	}
	if want != (api.Err{}) && !sameProgram(got, api.Program{}) {
		t.Fatalf("Parse(%q) returns a program with its error: %v", excerpt(s), got)
	}
}

// 3.3
func TestFirstTokenThatCannotContinue(t *testing.T) {
	for _, s := range []string{
		"@x", "@;", "@1", "@{", "@var x;", "@return 0;", "@out 1;", "@x = 1;", "array x 1; @;", "func f() { return 0; } @;", "func f() { return 0; } @}",
		"array @1 2;", "array @;", "array x @;", "array x @y;", "array x 1 @2;", "array x 1@, y 2;", "array x@[1];", "array x @= 1;", "array x 1 @array y 2;",
		"func @(a) { return 0; }", "func @1() { return 0; }", "func f @{ return 0; }", "func f(@,) { return 0; }", "func f(a @b) { return 0; }",
		"func f(a,@) { return 0; }", "func f(a,@, b) { return 0; }", "func f(@1) { return 0; }", "func f(@(a)) { return 0; }", "func f(a@; { return 0; }",
		"func f()@; { return 0; }", "func f() @a { return 0; }", "func f() var @{ return 0; }", "func f() var a @b { return 0; }", "func f() var a,@{ return 0; }",
		"func f() var a@; { return 0; }", "func f() var a { return 0; @var b; }", "func f() { @var b; return 0; }", "func f() var a @var b { return 0; }",
		"func f() @return 0;", "func f() { @}", "func f() { out 1; @}", "func f() { return@; }", "func f() { return 0 @}", "func f() { return 0; @", "func f() { return 0; @; }",
		"func f() { return 0; @return 0; }", "func f() { return 0; @x = 1; }", "func f() { return 0; @func g() { return 0; } }", "func f() { return 0 @= 1; }",
		"func f() { @{ } return 0; }", "func f() { @; return 0; }", "func f() { @1; return 0; }", "func f() { @func g() { return 0; } return 0; }", "func f() { @array x 1; return 0; }",
		"func f() { @else { } return 0; }", "func f() { if (1) { } else { } @else { } return 0; }", "func f() { if (1) { } else @if (2) { } return 0; }",
		"func f() { if (1) @out 1; return 0; }", "func f() { if (1) { } else @out 1; return 0; }", "func f() { if @1 { } return 0; }", "func f() { if (@) { } return 0; }",
		"func f() { if (1@, 2) { } return 0; }", "func f() { if (1) { @return 0; } return 0; }", "func f() { if (1) { }@; return 0; }", "func f() { if (1)@; return 0; }",
		"func f() { while @1 { } return 0; }", "func f() { while (@) { } return 0; }", "func f() { while (1) @out 1; return 0; }", "func f() { while (1)@; return 0; }",
		"func f() { while (1) { @return 0; } return 0; }", "func f() { while (1) { } @else { } return 0; }", "func f() { while (1) { }@; return 0; }",
		"func f() { out@; return 0; }", "func f() { out 1 @return 0; }", "func f() { out 1@, 2; return 0; }", "func f() { out 1 @= 2; return 0; }",
		"func f() { trap@; return 0; }", "func f() { trap @a; return 0; }", "func f() { trap 1 @return 0; }", "func f() { trap @(1); return 0; }",
		"func f() { x@; return 0; }", "func f() { x @== 1; return 0; }", "func f() { x @+ 1; return 0; }", "func f() { x@, y = 1; return 0; }", "func f() { x @y = 1; return 0; }",
		"func f() { x =@; return 0; }", "func f() { x = 1 @return 0; }", "func f() { x = 1 @= 2; return 0; }", "func f() { x = @= 2; return 0; }", "func f() { x = y @= 2; return 0; }",
		"func f() { x = g(@; return 0; }", "func f() { x = g(@,); return 0; }", "func f() { x = g(1,@); return 0; }", "func f() { x = g(1 @2); return 0; }", "func f() { x = g(1@; return 0; }",
		"func f() { x = g(1) @return 0; }", "func f() { x = g(1)@(2); return 0; }", "func f() { x = g(@[1]); return 0; }",
		"func f() { x[@] = 1; return 0; }", "func f() { x[1@; return 0; }", "func f() { x[1]@; return 0; }", "func f() { x[1] @== 2; return 0; }", "func f() { x[1] @+ 1; return 0; }",
		"func f() { x[1]@[2] = 3; return 0; }", "func f() { x[1] =@; return 0; }", "func f() { x[1] = 2 @return 0; }", "func f() { x[1@, 2] = 3; return 0; }", "func f() { x[1] = g@(); return 0; }",
	} {
		checkMarkedError(t, s)
	}
}

// 3.3
func TestErrorsOfTheLexerComeFirst(t *testing.T) {
	for _, c := range []struct {
		s   string
		why api.Errno
		at  int
	}{
		{"$", api.ErrSyntax, 0},
		{"x 07", api.ErrSyntax, 2},
		{"array array 1; \"", api.ErrSyntax, 15},
		{"func f() { return 9223372036854775808; } 1x", api.ErrSyntax, 41},
		{"func f() { return a b c d \xff e; }", api.ErrSyntax, 26},
		{"abcdefghijklmnopq", api.ErrLimit, 0},
		{"array abcdefghijklmnopq 1;", api.ErrLimit, 6},
		{"} } } abcdefghijklmnopq 07", api.ErrLimit, 6},
		{"} } } 07 abcdefghijklmnopq", api.ErrSyntax, 6},
		{"array x 9223372036854775809;", api.ErrSyntax, 8},
		{"func f() { return -9223372036854775809; }", api.ErrSyntax, 19},
		{strings.Repeat(" ", api.MaxText+1), api.ErrLimit, api.MaxText},
		{strings.Repeat("}", api.MaxText+1), api.ErrLimit, api.MaxText},
		{"array x 1;" + strings.Repeat(" ", api.MaxText), api.ErrLimit, api.MaxText},
		{"$" + strings.Repeat("}", api.MaxText), api.ErrLimit, api.MaxText},
	} {
		checkError(t, c.s, c.why, c.at)
	}
}

// 3.3
func TestTextsThatEndTooEarly(t *testing.T) {
	tokens, _ := lexer.Scan(everything)
	checkProgramIsAccepted(t, everything)
	depth := 0
	for i, token := range tokens {
		complete := i == 0 || depth == 0 && (tokens[i-1].Text == ";" || tokens[i-1].Text == "}")
		for _, end := range []string{"", " ", " # more\n", "#"} {
			s := everything[:token.At] + end
			if complete {
				checkProgramIsAccepted(t, s)
			} else {
				checkError(t, s, api.ErrSyntax, len(s))
			}
		}
		switch token.Text {
		case "{":
			depth++
		case "}":
			depth--
		}
	}
}

func checkProgramIsAccepted(t *testing.T, s string) {
	t.Helper()
	if _, err := parser.Parse(s); err != (api.Err{}) {
		t.Errorf("Parse(%q) returns %v", s, err)
	}
}

// sampleTokens lists one or more tokens of every kind.
func sampleTokens() []string {
	return append(reservedWords(), "a", "f", "0", "1000001", "9223372036854775808",
		">>>", "<<", ">>", "<=", ">=", "==", "!=", "+", "-", "*", "/", "%", "&", "|", "^", "~", "!", "<", ">", "=", "?", ":", ";", ",", "(", ")", "{", "}", "[", "]")
}

// 3.1, 3.2, 3.3
func TestEveryTokenAtEveryPlaceOfAProgram(t *testing.T) {
	g := newGrammar()
	tokens := tokensOf(t, everything)
	checkTokens(t, g, tokens, blank)
	for i := range tokens {
		checkTokens(t, g, slices.Delete(slices.Clone(tokens), i, i+1), blank)
		for _, token := range sampleTokens() {
			inserted := slices.Insert(slices.Clone(tokens), i, token)
			// What follows makes a difference only after a token that can continue the program.
			checkTokens(t, g, inserted[:min(len(inserted), i+8)], blank)
			replaced := slices.Clone(tokens)
			replaced[i] = token
			checkTokens(t, g, replaced[:min(len(replaced), i+8)], blank)
		}
	}
}

// sequences calls yield for all sequences of exactly length of the tokens.
func sequences(tokens []string, length int, yield func([]string)) {
	if length == 0 {
		yield(nil)
		return
	}
	sequences(tokens, length-1, func(before []string) {
		for _, token := range tokens {
			yield(append(slices.Clip(before), token))
		}
	})
}

// 3.2, 3.3
func TestAllShortTokenSequencesAsExpressions(t *testing.T) {
	g := newGrammar()
	parts := []string{"a", "1", "9223372036854775808", "+", "-", "!", ">", "?", ":", "(", ")", "[", "]", "if"}
	for length := range 5 {
		sequences(parts, length, func(tokens []string) {
			checkTokens(t, g, slices.Concat([]string{"func", "f", "(", ")", "{", "return"}, tokens, []string{";", "}"}), blank)
		})
	}
}

// 3.1, 3.3
func TestAllShortTokenSequencesAsStatements(t *testing.T) {
	g := newGrammar()
	parts := []string{"x", "=", "(", ")", "[", "1", ",", ";", "{", "}", "if", "else", "while", "out", "trap", "return"}
	for length := range 5 {
		sequences(parts, length, func(tokens []string) {
			checkTokens(t, g, slices.Concat([]string{"func", "f", "(", ")", "{"}, tokens, []string{";", "return", "0", ";", "}"}), blank)
		})
	}
}

// 3.1, 3.3
func TestAllShortTokenSequencesAsPrograms(t *testing.T) {
	g := newGrammar()
	for length := range 3 {
		sequences(sampleTokens(), length, func(tokens []string) {
			checkTokens(t, g, tokens, blank)
			checkTokens(t, g, slices.Concat([]string{"func", "f"}, tokens), blank)
			checkTokens(t, g, slices.Concat([]string{"array", "x", "1", ";"}, tokens), blank)
		})
	}
}

// 3.1, 3.2
func TestGeneratedPrograms(t *testing.T) {
	for seed := range uint64(3000) {
		g := newGenerator(seed)
		want := g.program()
		s, _ := joinTokens(g.tokens, g.separator)
		got, err := parser.Parse(s)
		if err != (api.Err{}) || !sameProgram(got, want) {
			t.Fatalf("Parse(%q) = %v, %v, want %v and no error", s, got, err, want)
		}
	}
}

// 3.3
func TestChangedGeneratedPrograms(t *testing.T) {
	rules := newGrammar()
	sample := sampleTokens()
	for seed := range uint64(1500) {
		g := newGenerator(seed)
		g.budget = 20
		g.program()
		tokens := g.tokens
		for range 1 + g.random.IntN(2) {
			at := g.random.IntN(len(tokens))
			switch g.random.IntN(4) {
			case 0:
				tokens = slices.Delete(tokens, at, at+1)
			case 1:
				tokens = slices.Insert(tokens, at, sample[g.random.IntN(len(sample))])
			case 2:
				tokens[at] = sample[g.random.IntN(len(sample))]
			case 3:
				tokens = tokens[:at+1]
			}
		}
		checkTokens(t, rules, tokens, g.separator)
	}
}

// depthOf follows the last operand, or the first one, down to an expression without operands.
func depthOf(e api.Expr, last bool) int {
	depth := 0
	for len(e.Kids) > 0 {
		next := 0
		if last {
			next = len(e.Kids) - 1
		}
		e = e.Kids[next]
		depth++
	}
	return depth
}

// 3.3, R1
func TestDeeplyNestedExpressions(t *testing.T) {
	const before, after = "func f(){return ", ";}"
	for _, c := range []struct {
		open, inner, closing string
		nodes                int  // of each part
		last                 bool // the parts are nested in the last operand
	}{
		{"(", "a", ")", 0, false},
		{"x[", "a", "]", 1, false},
		{"-", "a", "", 1, false},
		{"~", "1", "", 1, false},
		{"!", "a", "", 1, false},
		{"a+(", "a", ")", 1, true},
		{"(", "a", "+a)", 1, false},
		{"", "a", "+a", 1, false},
		{"", "a", "*-a", 1, false},
		{"a?a:", "a", "", 1, true},
		{"-(", "a", ")", 1, false},
		{"(", "a", "?a:a)", 1, false},
		{"a>(", "a", ")", 1, false},
	} {
		n := (api.MaxText - len(before) - len(after) - len(c.inner)) / len(c.open+c.closing)
		open, closing := strings.Repeat(c.open, n), strings.Repeat(c.closing, n)
		program, err := parser.Parse(before + open + c.inner + closing + after)
		if err != (api.Err{}) {
			t.Errorf("%d times %q: %v", n, c.open+".."+c.closing, err)
			continue
		}
		if depth := depthOf(program.Funcs[0].Value, c.last); depth != n*c.nodes {
			t.Errorf("%d times %q: depth %d", n, c.open+".."+c.closing, depth)
		}
		if c.open != "" {
			checkError(t, before+open, api.ErrSyntax, len(before+open))
		}
		checkError(t, before+open+c.inner+closing, api.ErrSyntax, len(before+open+c.inner+closing))
	}
}

// 3.3, R1
func TestDeeplyNestedStatements(t *testing.T) {
	const before, after = "func f(){", "return 0;}"
	for _, c := range []struct{ open, closing string }{{"if(1){", "}"}, {"while(1){", "}"}, {"if(1){}else{", "}"}} {
		n := (api.MaxText - len(before) - len(after)) / len(c.open+c.closing)
		open, closing := strings.Repeat(c.open, n), strings.Repeat(c.closing, n)
		program, err := parser.Parse(before + open + closing + after)
		if err != (api.Err{}) {
			t.Errorf("%d times %q: %v", n, c.open, err)
			continue
		}
		depth := 0
		for stmts := program.Funcs[0].Body; len(stmts) > 0; depth++ {
			stmts = append(slices.Clip(stmts[0].Then), stmts[0].Else...)
		}
		if depth != n {
			t.Errorf("%d times %q: depth %d", n, c.open, depth)
		}
		checkError(t, before+open, api.ErrSyntax, len(before+open))
		checkError(t, before+open+closing+"}", api.ErrSyntax, len(before+open+closing))
	}
}

// 3.1, R1
func TestLongPrograms(t *testing.T) {
	arrays := strings.Repeat("array x 1;", api.MaxText/len("array x 1;"))
	if program, err := parser.Parse(arrays); err != (api.Err{}) || len(program.Arrays) != 2000 {
		t.Errorf("%d arrays and %v", len(program.Arrays), err)
	}
	params := "func f(a" + strings.Repeat(",a", 9900) + "){return 0;}"
	if program, err := parser.Parse(params); err != (api.Err{}) || len(program.Funcs) != 1 || len(program.Funcs[0].Params) != 9901 {
		t.Errorf("%v for a function of 9901 parameters", err)
	}
	body := "func f(){" + strings.Repeat("a=a;", 4990) + "return 0;}"
	if program, err := parser.Parse(body); err != (api.Err{}) || len(program.Funcs) != 1 || len(program.Funcs[0].Body) != 4990 {
		t.Errorf("%v for a function of 4990 statements", err)
	}
	checkError(t, arrays[:len(arrays)-1]+"}", api.ErrSyntax, len(arrays)-1)
}
