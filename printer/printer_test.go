package printer_test

import (
	"strings"
	"testing"

	"fulling/api"
	"fulling/parser"
	"fulling/printer"
)

// parse fails the test for a text that is not a program.
func parse(t *testing.T, s string) api.Program {
	t.Helper()
	p, err := parser.Parse(s)
	if err != (api.Err{}) {
		t.Fatalf("Parse(%q) returns %v", s, err)
	}
	return p
}

// checkTree checks the text of a program. The expected text shows which program it is.
func checkTree(t *testing.T, p api.Program, want string) {
	t.Helper()
	if got := printer.Print(p); got != want {
		t.Errorf("Print returns\n%s\nwant\n%s", got, want)
	}
}

// text joins lines, each of which ends with a line feed.
func text(lines ...string) string {
	if len(lines) == 0 {
		return ""
	}
	return strings.Join(lines, "\n") + "\n"
}

func checkText(t *testing.T, s string, lines ...string) {
	t.Helper()
	checkTree(t, parse(t, s), text(lines...))
}

// checkBody checks the lines of a statement list in a function. They are given without the indentation of its body.
func checkBody(t *testing.T, statements string, lines ...string) {
	t.Helper()
	want := []string{"array x 4;", "func f(p, q) var v {"}
	for _, line := range lines {
		want = append(want, "  "+line)
	}
	want = append(want, "  return 0;", "}", "func g() {", "  return 1;", "}")
	checkText(t, "array x 4;func f(p,q)var v{"+statements+"return 0;}func g(){return 1;}", want...)
}

// 5.1
func TestArrays(t *testing.T) {
	checkText(t, "")
	checkText(t, " # nothing")
	checkText(t, "array x 1;", "array x 1;")
	checkText(t, "array\tx\n16 ;array abcdefghijklmnop 7; array _1 2;", "array x 16;", "array abcdefghijklmnop 7;", "array _1 2;")
}

// 5.1
func TestFunctions(t *testing.T) {
	checkText(t, "func f(){return 0;}", "func f() {", "  return 0;", "}")
	checkText(t, "func f ( a ) { return a ; }", "func f(a) {", "  return a;", "}")
	checkText(t, "func f(a,b){return b;}", "func f(a, b) {", "  return b;", "}")
	checkText(t, "func f()var a{return a;}", "func f() var a {", "  return a;", "}")
	checkText(t, "func f()var a,b{return b;}", "func f() var a, b {", "  return b;", "}")
	checkText(t, "func f(a,b,c,d,e,g)var h,i,j,k,l,m,n,o{return a;}", "func f(a, b, c, d, e, g) var h, i, j, k, l, m, n, o {", "  return a;", "}")
	checkText(t, "func f(b)var a{return a;}func e(){return 1;}func g()var z{return z;}",
		"func f(b) var a {", "  return a;", "}", "func e() {", "  return 1;", "}", "func g() var z {", "  return z;", "}")
}

// 5.1: the arrays come first, in their order, then the functions in theirs.
func TestOrder(t *testing.T) {
	checkText(t, "func g(){return 0;}array y 2;func f(){return 1;}array x 1;",
		"array y 2;", "array x 1;", "func g() {", "  return 0;", "}", "func f() {", "  return 1;", "}")
}

// 5.1
func TestExampleOfChapter(t *testing.T) {
	checkText(t, "array x 2; func f(){return -(5)+x[1];}", "array x 2;", "func f() {", "  return (-(5)) + x[1];", "}")
}

// 5.1
func TestSimpleStatements(t *testing.T) {
	checkBody(t, "")
	checkBody(t, "v=p;", "v = p;")
	checkBody(t, "v=p+q;p=v;", "v = p + q;", "p = v;")
	checkBody(t, "x[p]=q;", "x[p] = q;")
	checkBody(t, "x[p+1]=q?1:v;x[x[0]]=x[v];", "x[p + 1] = q ? 1 : v;", "x[x[0]] = x[v];")
	checkBody(t, "out p;", "out p;")
	checkBody(t, "out(p);out(p*q);", "out p;", "out p * q;")
	checkBody(t, "v=g();", "v = g();")
	checkBody(t, "v=f(p,q);", "v = f(p, q);")
	checkBody(t, "v=f(-p,(p-q));v=f(p?1:2,x[0]);", "v = f(-p, p - q);", "v = f(p ? 1 : 2, x[0]);")
	checkBody(t, "trap 0;trap 7;trap 1000000;", "trap 0;", "trap 7;", "trap 1000000;")
	checkText(t, "func f(a){a=f(a);return a;}", "func f(a) {", "  a = f(a);", "  return a;", "}")
	checkText(t, "func f(a,b,c){a=f(1,-2,c);return a;}", "func f(a, b, c) {", "  a = f(1, -2, c);", "  return a;", "}")
}

// 5.1
func TestWhile(t *testing.T) {
	checkBody(t, "while(p){}", "while (p) {", "}")
	checkBody(t, "while((p<q)){p=q;}", "while (p < q) {", "  p = q;", "}")
	checkBody(t, "while(p?1:q){out 1;trap 2;}out 3;", "while (p ? 1 : q) {", "  out 1;", "  trap 2;", "}", "out 3;")
	checkBody(t, "while(p){while(q){}while(v){out 1;}}", "while (p) {", "  while (q) {", "  }", "  while (v) {", "    out 1;", "  }", "}")
}

// 5.1
func TestIf(t *testing.T) {
	checkBody(t, "if(p){}", "if (p) {", "}")
	checkBody(t, "if(p){}else{}", "if (p) {", "}")
	checkBody(t, "if(p==q){out 1;}", "if (p == q) {", "  out 1;", "}")
	checkBody(t, "if(p){out 1;}else{}out 2;", "if (p) {", "  out 1;", "}", "out 2;")
	checkBody(t, "if(p){}else{out 1;}", "if (p) {", "} else {", "  out 1;", "}")
	checkBody(t, "if((p)){out 1;v=2;}else{trap 3;x[0]=4;}out 5;",
		"if (p) {", "  out 1;", "  v = 2;", "} else {", "  trap 3;", "  x[0] = 4;", "}", "out 5;")
}

// 5.1: an if statement in an else has lines of its own.
func TestNestedIf(t *testing.T) {
	checkBody(t, "if(p){}else{if(q){}else{if(v){out 1;}}}",
		"if (p) {", "} else {", "  if (q) {", "  } else {", "    if (v) {", "      out 1;", "    }", "  }", "}")
	checkBody(t, "if(p){if(q){out 1;}else{out 2;}out 3;}else{while(v){if(1){trap 4;}}v=g();}",
		"if (p) {", "  if (q) {", "    out 1;", "  } else {", "    out 2;", "  }", "  out 3;", "} else {",
		"  while (v) {", "    if (1) {", "      trap 4;", "    }", "  }", "  v = g();", "}")
}

// 5.1: the indentation at the largest depth
func TestDeepestStatements(t *testing.T) {
	for _, opening := range []string{"if (p) {", "while (p) {"} {
		depth := api.MaxDeep
		if opening == "while (p) {" {
			depth = api.MaxLoops
		}
		var lines []string
		for i := range depth {
			lines = append(lines, strings.Repeat("  ", i)+opening)
		}
		lines = append(lines, strings.Repeat("  ", depth)+"out 1;")
		for i := range depth {
			lines = append(lines, strings.Repeat("  ", depth-1-i)+"}")
		}
		checkBody(t, strings.Repeat(opening, depth)+"out 1;"+strings.Repeat("}", depth), lines...)
	}
}
