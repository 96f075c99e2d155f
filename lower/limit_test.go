package lower_test

import (
	"fmt"
	"slices"
	"testing"

	"fulling/api"
	"fulling/lower"
)

// sum adds count different numbers. All its nodes are different: 2 * count - 1.
func sum(first int64, count int) api.Expr {
	if count == 1 {
		return num(first)
	}
	half := count / 2
	return operation(api.OpAdd, sum(first, half), sum(first+int64(half), count-half))
}

// large returns an expression with this number of nodes, which no other expression has.
func large(nodes int) api.Expr {
	const first = 1 << 20
	if nodes%2 == 0 {
		return operation(api.OpNeg, sum(first, nodes/2))
	}
	return sum(first, nodes/2+1)
}

// function is a program with one function without variables.
func function(value api.Expr, body ...api.Stmt) api.Program {
	return api.Program{Funcs: []api.Func{{Name: "f", Body: body, Value: value}}}
}

func countNodes(t *testing.T, what any, p api.Program) int {
	t.Helper()
	return len(mustLower(t, what, p).Funcs[0].Nodes)
}

// 8.1: a graph has at most MaxNodes nodes.
func TestMostNodes(t *testing.T) {
	for _, n := range []int{1, 2, 10, 1000, 1998, 1999} {
		if got := countNodes(t, n, function(large(n))); got != n+1 {
			t.Errorf("the graph has %d nodes, not %d", got, n+1)
		}
	}
	for _, n := range []int{2000, 2001, 2100, 4000, 100000} {
		checkError(t, n, function(large(n)), api.ErrLimit)
	}
}

// 8.1: each node counts, whatever its operation and its place.
func TestLimitOfEachNode(t *testing.T) {
	for _, s := range []string{
		"func f(a, b, c, d, e, g) { return a; }",
		"func f() var a { return a; }",
		"func f(a, b) { return a / b; }",
		"func f(a) { return ~-!a; }",
		"array x 2; func f(a) { return x[a]; }",
		"func f(a, b) { return a ? 1 / b : 2; }",
		"array x 2; func f(a) { x[a] = 5; return a; }",
		"func f(a) { out a; out 7; return a; }",
		"func f(a) { trap 5; return a; }",
		"func f(a, b) { b = f(a, 1); return b; }",
		"func f(a, b) { if (b) { a = 1; out 3; } else { b = 2; } return a; }",
		"func f(a, b) { while (b) { a = a + 5; } return a; }",
		"func f(a, b) { while (b) { while (a) { out b; b = f(a, b); } } return b; }",
	} {
		count := countNodes(t, s, parse(t, s))
		for total := api.MaxNodes - 3; total <= api.MaxNodes+count+3; total++ {
			filler := api.Stmt{Kind: api.StmtOut, Value: large(total - count - 1)}
			first, last := parse(t, s), parse(t, s)
			first.Funcs[0].Body = slices.Insert(first.Funcs[0].Body, 0, filler)
			last.Funcs[0].Body = append(last.Funcs[0].Body, filler)
			for _, p := range []api.Program{first, last} {
				what := fmt.Sprint(s, " with ", total, " nodes")
				if total > api.MaxNodes {
					checkError(t, what, p, api.ErrLimit)
				} else if got := countNodes(t, what, p); got != total {
					t.Errorf("%s has %d nodes", what, got)
				}
			}
		}
	}
}

// 8.1: only different nodes count.
func TestRepeatedNodes(t *testing.T) {
	e := variable("a")
	for range 16 {
		e = operation(api.OpAdd, e, e)
	}
	p := api.Program{Funcs: []api.Func{{Name: "f", Params: []string{"a"}, Value: e}}}
	if got := countNodes(t, "sum", p); got != 18 {
		t.Errorf("the sum has %d nodes", got)
	}
	var body []api.Stmt
	for range api.MaxStmts {
		body = append(body, api.Stmt{Kind: api.StmtOut, Value: large(1700)})
	}
	if got := countNodes(t, "outputs", function(large(1700), body...)); got != 1+1700+api.MaxStmts {
		t.Errorf("the outputs have %d nodes", got)
	}
}

// 8.1: the graph of every function is limited, and each has its own nodes.
func TestLimitOfEachFunction(t *testing.T) {
	var p api.Program
	for i := range api.MaxFuncs {
		p.Funcs = append(p.Funcs, api.Func{Name: fmt.Sprint("f", i), Value: large(api.MaxNodes - 1)})
	}
	u := mustLower(t, "large functions", p)
	for _, g := range u.Funcs {
		if len(g.Nodes) != api.MaxNodes {
			t.Errorf("%s has %d nodes", g.Name, len(g.Nodes))
		}
	}
	for i := range p.Funcs {
		p.Funcs[i].Value = large(api.MaxNodes)
		checkError(t, fmt.Sprint("function ", i), p, api.ErrLimit)
		p.Funcs[i].Value = large(api.MaxNodes - 1)
	}
}

// 8.1: an error of the checker precedes a graph that is too large, whatever function each is in.
func TestOrderOfErrors(t *testing.T) {
	trees := map[api.Errno]api.Func{
		api.ErrSyntax:    {Name: "g", Value: operation(api.OpNeg, num(1), num(2))},
		api.ErrDuplicate: {Name: "f", Value: num(1)},
		api.ErrUndefined: {Name: "g", Value: variable("a")},
		api.ErrArity: {Name: "g", Locals: []string{"a"}, Value: num(1), Body: []api.Stmt{
			{Kind: api.StmtCall, Name: "a", To: "f", Args: []api.Expr{num(1)}},
		}},
		api.ErrLimit: {Name: "g", Value: num(1)},
	}
	for want, f := range trees {
		p := function(large(api.MaxNodes))
		p.Funcs = append(p.Funcs, f)
		checkError(t, "large function first", p, want)
		slices.Reverse(p.Funcs)
		checkError(t, "large function last", p, want)
	}
	p := function(operation(api.OpAdd, large(api.MaxNodes), variable("a")))
	checkError(t, "one function", p, api.ErrUndefined)
	if _, why := lower.Lower(function(operation(api.OpAdd, large(api.MaxNodes), num(1)))); why != api.ErrLimit {
		t.Errorf("Lower returns %d", why)
	}
}
