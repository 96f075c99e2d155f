package lower_test

import (
	"fmt"
	"maps"
	"slices"
	"strings"

	"fulling/api"
)

// oracle writes the graph of a function in another way than Lower: it has only the texts of the nodes,
// and environments that are never changed.
type oracle struct {
	program   api.Program
	variables []string
	texts     []string
	loops     int
}

// environment has the current nodes of the variables by their names, and of the state by the empty name.
type environment map[string]int

func (e environment) with(name string, node int) environment {
	changed := maps.Clone(e)
	changed[name] = node
	return changed
}

func (o *oracle) put(op int, imm int, kids ...int) int {
	text := nodeText(op, int64(imm), kids...)
	i := slices.Index(o.texts, text)
	if i < 0 {
		i = len(o.texts)
		o.texts = append(o.texts, text)
	}
	return i
}

func (o *oracle) array(name string) int {
	return slices.Index(o.names("array"), name)
}

func (o *oracle) names(what string) []string {
	var l []string
	for _, a := range o.program.Arrays {
		if what == "array" {
			l = append(l, a.Name)
		}
	}
	for _, f := range o.program.Funcs {
		if what == "function" {
			l = append(l, f.Name)
		}
	}
	return l
}

// expected returns the texts of a function's nodes, of its value and of its state, and the number of nodes.
func expected(p api.Program, f api.Func) (string, int) {
	o := &oracle{program: p, variables: slices.Concat(f.Params, f.Locals)}
	e := environment{"": o.put(api.OpEntry, 0)}
	for i, name := range f.Params {
		e[name] = o.put(api.OpParam, i)
	}
	for _, name := range f.Locals {
		e[name] = o.put(api.OpConst, 0)
	}
	value, e := o.expression(f.Value, o.body(f.Body, e))
	return fmt.Sprint(strings.Join(o.texts, " "), " = ", value, " ", e[""]), len(o.texts)
}

// expressions translates several expressions, one after the other.
func (o *oracle) expressions(l []api.Expr, e environment) ([]int, environment) {
	var nodes []int
	for _, x := range l {
		var n int
		n, e = o.expression(x, e)
		nodes = append(nodes, n)
	}
	return nodes, e
}

func (o *oracle) expression(x api.Expr, e environment) (int, environment) {
	switch x.Kind {
	case api.ExprNum:
		text := nodeText(api.OpConst, x.N)
		if !slices.Contains(o.texts, text) {
			o.texts = append(o.texts, text)
		}
		return slices.Index(o.texts, text), e
	case api.ExprVar:
		return e[x.Name], e
	case api.ExprCond:
		c, e := o.expression(x.Kids[0], e)
		a, afterA := o.expression(x.Kids[1], e)
		b, afterB := o.expression(x.Kids[2], e)
		value := o.merge(c, a, b)
		return value, e.with("", o.merge(c, afterA[""], afterB[""]))
	}
	kids, e := o.expressions(x.Kids, e)
	switch {
	case x.Kind == api.ExprIndex:
		e = o.checkIndex(x.Name, kids[0], e)
		return o.put(api.OpLoad, o.array(x.Name), e[""], kids[0]), e
	case x.Op == api.OpDiv || x.Op == api.OpRem:
		zero := o.put(api.OpConst, 0)
		nonzero := o.put(api.OpNe, 0, kids[1], zero)
		e = e.with("", o.put(api.OpGuard, 1, e[""], nonzero))
	}
	return o.put(x.Op, 0, kids...), e
}

func (o *oracle) checkIndex(array string, at int, e environment) environment {
	length := o.put(api.OpConst, o.program.Arrays[o.array(array)].Len)
	inside := o.put(api.OpLtu, 0, at, length)
	return e.with("", o.put(api.OpGuard, 2, e[""], inside))
}

func (o *oracle) merge(c, x, y int) int {
	if x != y {
		x = o.put(api.OpSelect, 0, c, x, y)
	}
	return x
}

// mergeAll merges two environments in the order of the names.
func (o *oracle) mergeAll(names []string, c int, a, b environment) environment {
	merged := maps.Clone(b)
	for _, name := range names {
		merged[name] = o.merge(c, a[name], b[name])
	}
	return merged
}

func (o *oracle) body(l []api.Stmt, e environment) environment {
	for _, s := range l {
		e = o.statement(s, e)
	}
	return e
}

func (o *oracle) statement(s api.Stmt, e environment) environment {
	switch s.Kind {
	case api.StmtTrap:
		return e.with("", o.put(api.OpGuard, 16+s.N, e[""], o.put(api.OpConst, 0)))
	case api.StmtStore:
		kids, e := o.expressions([]api.Expr{s.At, s.Value}, e)
		e = o.checkIndex(s.Name, kids[0], e)
		return e.with("", o.put(api.OpStore, o.array(s.Name), e[""], kids[0], kids[1]))
	case api.StmtCall:
		args, e := o.expressions(s.Args, e)
		e = e.with("", o.put(api.OpCall, slices.Index(o.names("function"), s.To), append([]int{e[""]}, args...)...))
		return e.with(s.Name, o.put(api.OpCallResult, 0, e[""]))
	}
	number := o.loops
	value, e := o.expression(s.Value, e)
	switch s.Kind {
	case api.StmtAssign:
		return e.with(s.Name, value)
	case api.StmtOut:
		return e.with("", o.put(api.OpOutput, 0, e[""], value))
	case api.StmtIf:
		first := o.body(s.Then, e)
		second := o.body(s.Else, e)
		return o.mergeAll(append(slices.Clone(o.variables), ""), value, first, second)
	}
	o.loops++
	return o.loop(s, number, value, e)
}

func (o *oracle) loop(s api.Stmt, number, c int, e environment) environment {
	names := []string{""}
	for _, name := range o.variables {
		if assigned(s.Then)[name] {
			names = append(names, name)
		}
	}
	inside, operands := maps.Clone(e), []int{}
	for i, name := range names {
		inside[name] = o.put(api.OpLoopVar, 16*number+i)
		operands = append(operands, e[name])
	}
	d, inside := o.expression(s.Value, o.body(s.Then, inside))
	operands = append(operands, d)
	for _, name := range names {
		operands = append(operands, inside[name])
	}
	n := o.put(api.OpLoop, number, operands...)
	after := maps.Clone(e)
	for i, name := range names {
		after[name] = o.merge(c, o.put(api.OpLoopResult, i, n), e[name])
	}
	return after
}

// assigned returns the names of the variables that statements assign.
func assigned(l []api.Stmt) map[string]bool {
	names := map[string]bool{}
	for _, s := range l {
		if s.Kind == api.StmtAssign || s.Kind == api.StmtCall {
			names[s.Name] = true
		}
		maps.Copy(names, assigned(append(slices.Clone(s.Then), s.Else...)))
	}
	return names
}
