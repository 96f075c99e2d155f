package checker_test

import (
	"reflect"
	"slices"
	"strconv"
	"strings"
	"testing"

	"fulling/api"
	"fulling/checker"
	"fulling/parser"
)

// writer writes a program as text, with all operands in parentheses. Parts that have no text are left out.
type writer struct {
	strings.Builder
}

func (w *writer) write(texts ...string) {
	for _, text := range texts {
		w.WriteString(text)
	}
}

func textOf(p api.Program) string {
	var w writer
	for _, a := range p.Arrays {
		w.write("array ", a.Name, " ", strconv.Itoa(a.Len), ";")
	}
	for _, f := range p.Funcs {
		w.write("func ", f.Name, "(", strings.Join(f.Params, ","), ")")
		if len(f.Locals) > 0 {
			w.write("var ", strings.Join(f.Locals, ","))
		}
		w.write("{")
		w.statements(f.Body)
		w.write("return ", w.expression(f.Value), ";}")
	}
	return w.String()
}

func (w *writer) statements(l []api.Stmt) {
	for _, s := range l {
		switch s.Kind {
		case api.StmtAssign:
			w.write(s.Name, "=", w.expression(s.Value), ";")
		case api.StmtStore:
			w.write(s.Name, "[", w.expression(s.At), "]=", w.expression(s.Value), ";")
		case api.StmtIf:
			w.write("if(", w.expression(s.Value), "){")
			w.statements(s.Then)
			w.write("}else{")
			w.statements(s.Else)
			w.write("}")
		case api.StmtWhile:
			w.write("while(", w.expression(s.Value), "){")
			w.statements(s.Then)
			w.write("}")
		case api.StmtOut:
			w.write("out ", w.expression(s.Value), ";")
		case api.StmtCall:
			w.write(s.Name, "=", s.To, "(", strings.Join(w.expressions(s.Args), ","), ");")
		case api.StmtTrap:
			w.write("trap ", strconv.Itoa(s.N), ";")
		}
	}
}

func (w *writer) expressions(l []api.Expr) []string {
	var texts []string
	for _, e := range l {
		texts = append(texts, w.expression(e))
	}
	return texts
}

func operators() map[int]string {
	return map[int]string{
		api.OpOr: "|", api.OpXor: "^", api.OpAnd: "&", api.OpEq: "==", api.OpNe: "!=", api.OpLt: "<", api.OpLe: "<=",
		api.OpShl: "<<", api.OpSar: ">>", api.OpShr: ">>>", api.OpAdd: "+", api.OpSub: "-", api.OpMul: "*", api.OpDiv: "/", api.OpRem: "%",
		api.OpNeg: "-", api.OpNot: "~",
	}
}

func (w *writer) expression(e api.Expr) string {
	kids := w.expressions(e.Kids)
	switch {
	case e.Kind == api.ExprNum:
		return strconv.FormatInt(e.N, 10)
	case e.Kind == api.ExprVar:
		return e.Name
	case e.Kind == api.ExprIndex && len(kids) == 1:
		return e.Name + "[" + kids[0] + "]"
	case e.Kind == api.ExprCond && len(kids) == 3:
		return "(" + kids[0] + ")?(" + kids[1] + "):(" + kids[2] + ")"
	case e.Kind == api.ExprOp && len(kids) == 1:
		return operators()[e.Op] + "(" + kids[0] + ")"
	case e.Kind == api.ExprOp && len(kids) == 2:
		return "(" + kids[0] + ")" + operators()[e.Op] + "(" + kids[1] + ")"
	}
	return ""
}

// sameValue compares values; a nil slice and an empty slice are the same.
func sameValue(a, b reflect.Value) bool {
	switch a.Kind() {
	case reflect.Struct:
		for i := range a.NumField() {
			if !sameValue(a.Field(i), b.Field(i)) {
				return false
			}
		}
		return true
	case reflect.Slice:
		if a.Len() != b.Len() {
			return false
		}
		for i := range a.Len() {
			if !sameValue(a.Index(i), b.Index(i)) {
				return false
			}
		}
		return true
	}
	return a.Equal(b)
}

// isParsed reports whether parser.Parse produces p.
func isParsed(p api.Program) bool {
	got, err := parser.Parse(textOf(p))
	return err.Why == api.OK && sameValue(reflect.ValueOf(got), reflect.ValueOf(p))
}

// visit calls f with each statement and expression in a value, and the number of statements or expressions in which it is nested.
func visit(v reflect.Value, statements, nodes int, f func(part any, depth int)) {
	switch part := v.Interface().(type) {
	case api.Stmt:
		f(part, statements)
		statements++
	case api.Expr:
		f(part, nodes)
		nodes++
	}
	switch v.Kind() {
	case reflect.Struct:
		for i := range v.NumField() {
			visit(v.Field(i), statements, nodes, f)
		}
	case reflect.Slice:
		for i := range v.Len() {
			visit(v.Index(i), statements, nodes, f)
		}
	}
}

// findings are the errors of a program apart from ErrSyntax.
type findings map[api.Errno]bool

func (l findings) addLimits(p api.Program) {
	excess := len(p.Arrays) > 4 || len(p.Funcs) > 8
	for _, a := range p.Arrays {
		excess = excess || a.Len <= 0 || a.Len >= 17
	}
	for _, f := range p.Funcs {
		statements, loops, deepest := 0, 0, 0
		visit(reflect.ValueOf(f), 0, 0, func(part any, depth int) {
			deepest = max(deepest, depth)
			if s, ok := part.(api.Stmt); ok {
				statements++
				if s.Kind == api.StmtWhile {
					loops++
				}
			}
		})
		excess = excess || len(f.Params) > 6 || len(f.Locals) > 8 || statements > 200 || loops > 16 || deepest > 20
	}
	if excess {
		l[api.ErrLimit] = true
	}
}

func (l findings) addDuplicates(names map[string]int) {
	for _, n := range names {
		if n > 1 {
			l[api.ErrDuplicate] = true
		}
	}
}

func (l findings) addNames(p api.Program) {
	arrays, funcs, params := map[string]int{}, map[string]int{}, map[string]int{}
	for _, a := range p.Arrays {
		arrays[a.Name]++
	}
	for _, f := range p.Funcs {
		funcs[f.Name]++
		params[f.Name] = len(f.Params)
	}
	l.addDuplicates(arrays)
	l.addDuplicates(funcs)
	for _, f := range p.Funcs {
		own, all := map[string]int{}, map[string]int{}
		for _, name := range slices.Concat(f.Params, f.Locals) {
			own[name]++
			all[name]++
		}
		for name := range arrays {
			all[name]++
		}
		l.addDuplicates(all)
		use := func(names map[string]int, name string) {
			if names[name] == 0 {
				l[api.ErrUndefined] = true
			}
		}
		visit(reflect.ValueOf(f), 0, 0, func(part any, depth int) {
			switch part := part.(type) {
			case api.Stmt:
				switch part.Kind {
				case api.StmtAssign:
					use(own, part.Name)
				case api.StmtStore:
					use(arrays, part.Name)
				case api.StmtCall:
					use(own, part.Name)
					use(funcs, part.To)
					if params[part.To] != len(part.Args) {
						l[api.ErrArity] = true
					}
				}
			case api.Expr:
				switch part.Kind {
				case api.ExprVar:
					use(own, part.Name)
				case api.ExprIndex:
					use(arrays, part.Name)
				}
			}
		})
	}
}

// expected returns what Check has to return.
func expected(p api.Program) api.Errno {
	l := findings{}
	l.addLimits(p)
	if !l[api.ErrLimit] && !isParsed(p) {
		return api.ErrSyntax
	}
	l.addNames(p)
	for _, why := range []api.Errno{api.ErrLimit, api.ErrDuplicate, api.ErrUndefined, api.ErrArity} {
		if l[why] {
			return why
		}
	}
	return api.OK
}

// 4.1
func TestGeneratedPrograms(t *testing.T) {
	for seed := range uint64(1000) {
		p := newGenerator(seed).program()
		if why := expected(p); why != api.OK && why != api.ErrLimit && why != api.ErrDuplicate {
			t.Fatalf("the generator makes a program with error %d: %v", why, p)
		}
		checkTree(t, textOf(p), p, expected(p))
	}
}

// 4.1, 4.2: in addition, what Check accepts can be written as text.
func TestChangedPrograms(t *testing.T) {
	seen := map[api.Errno]int{}
	for seed := range uint64(10000) {
		g := newGenerator(seed)
		p := g.program()
		g.change(&p)
		text := textOf(p)
		if len(text) > api.MaxText {
			continue
		}
		want := expected(p)
		seen[want]++
		checkTree(t, text, p, want)
		if checker.Check(p) == api.OK && !isParsed(p) {
			t.Errorf("%s is another program than %v", excerpt(text), p)
		}
	}
	for _, why := range []api.Errno{api.OK, api.ErrLimit, api.ErrSyntax, api.ErrDuplicate, api.ErrUndefined, api.ErrArity} {
		if seen[why] < 100 {
			t.Errorf("error %d is expected only %d times: %v", why, seen[why], seen)
		}
	}
}
