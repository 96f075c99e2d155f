package printer

import (
	"fulling/api"
	"fulling/word"
)

// operatorTexts has no `>`, `>=` and `!`: the parser turns them into OpLt, OpLe and OpEq.
var operatorTexts = [...]string{
	api.OpOr:  "|",
	api.OpXor: "^",
	api.OpAnd: "&",
	api.OpEq:  "==",
	api.OpNe:  "!=",
	api.OpLt:  "<",
	api.OpLe:  "<=",
	api.OpShl: "<<",
	api.OpSar: ">>",
	api.OpShr: ">>>",
	api.OpAdd: "+",
	api.OpSub: "-",
	api.OpMul: "*",
	api.OpDiv: "/",
	api.OpRem: "%",
	api.OpNeg: "-",
	api.OpNot: "~",
}

func (w *writer) expression(e api.Expr) {
	switch e.Kind {
	case api.ExprNum:
		w.write(word.Text(e.N))
	case api.ExprVar:
		w.write(e.Name)
	case api.ExprIndex:
		w.element(e.Name, e.Kids[0])
	case api.ExprOp:
		w.operation(e)
	case api.ExprCond:
		w.operand(e.Kids[0])
		w.write(" ? ")
		w.operand(e.Kids[1])
		w.write(" : ")
		w.operand(e.Kids[2])
	}
}

func (w *writer) element(name string, index api.Expr) {
	w.write(name, "[")
	w.expression(index)
	w.write("]")
}

func (w *writer) operation(e api.Expr) {
	operator := operatorTexts[e.Op]
	if len(e.Kids) == 2 {
		w.operand(e.Kids[0])
		w.write(" ", operator, " ")
		w.operand(e.Kids[1])
		return
	}
	w.write(operator)
	// Without parentheses the parser would read the minus and the number as one number.
	if e.Op == api.OpNeg && e.Kids[0].Kind == api.ExprNum {
		w.parenthesized(e.Kids[0])
		return
	}
	w.operand(e.Kids[0])
}

// operand writes an operand of an operation or conditional expression.
// Its parentheses do not depend on precedence: the text shows the tree to a reader who does not know the levels.
func (w *writer) operand(e api.Expr) {
	if e.Kind == api.ExprOp || e.Kind == api.ExprCond {
		w.parenthesized(e)
		return
	}
	w.expression(e)
}

func (w *writer) parenthesized(e api.Expr) {
	w.write("(")
	w.expression(e)
	w.write(")")
}
