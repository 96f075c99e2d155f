package parser

import (
	"fulling/api"
	"fulling/word"
)

// operator is a binary operator. One of a higher level binds more tightly.
type operator struct {
	symbol    string
	level     int
	op        int
	exchanged bool // the second operand is the first of Kids
}

var operators = [...]operator{
	{symbol: "|", level: 1, op: api.OpOr},
	{symbol: "^", level: 2, op: api.OpXor},
	{symbol: "&", level: 3, op: api.OpAnd},
	{symbol: "==", level: 4, op: api.OpEq},
	{symbol: "!=", level: 4, op: api.OpNe},
	{symbol: "<", level: 5, op: api.OpLt},
	{symbol: "<=", level: 5, op: api.OpLe},
	{symbol: ">", level: 5, op: api.OpLt, exchanged: true},
	{symbol: ">=", level: 5, op: api.OpLe, exchanged: true},
	{symbol: "<<", level: 6, op: api.OpShl},
	{symbol: ">>", level: 6, op: api.OpSar},
	{symbol: ">>>", level: 6, op: api.OpShr},
	{symbol: "+", level: 7, op: api.OpAdd},
	{symbol: "-", level: 7, op: api.OpSub},
	{symbol: "*", level: 8, op: api.OpMul},
	{symbol: "/", level: 8, op: api.OpDiv},
	{symbol: "%", level: 8, op: api.OpRem},
}

// expression parses an expression of the lowest precedence.
func (p *parser) expression() api.Expr {
	condition := p.binary(1)
	if !p.accept("?") {
		return condition
	}
	first := p.expression()
	p.expect(":")
	second := p.expression()
	return api.Expr{Kind: api.ExprCond, Kids: []api.Expr{condition, first, second}}
}

// binary parses operands and the binary operators between them, as long as these are of at least the given level.
func (p *parser) binary(level int) api.Expr {
	left := p.prefixed()
	for {
		o, ok := p.operator()
		if !ok || o.level < level {
			return left
		}
		p.next++
		// An operator of the same level remains for this loop: the operators are left-associative.
		left = o.apply(left, p.binary(o.level+1))
	}
}

// operator returns the next token as a binary operator, without accepting it.
func (p *parser) operator() (operator, bool) {
	text := p.peek().Text
	for _, o := range operators {
		if o.symbol == text {
			return o, true
		}
	}
	return operator{}, false
}

func (o operator) apply(left, right api.Expr) api.Expr {
	if o.exchanged {
		left, right = right, left
	}
	return operation(o.op, left, right)
}

func operation(op int, operands ...api.Expr) api.Expr {
	return api.Expr{Kind: api.ExprOp, Op: op, Kids: operands}
}

// prefixed parses an operand with its prefix operators.
func (p *parser) prefixed() api.Expr {
	switch {
	case p.accept("-"):
		if p.peek().Kind == api.TokenNumber {
			return p.negativeConstant()
		}
		return operation(api.OpNeg, p.prefixed())
	case p.accept("~"):
		return operation(api.OpNot, p.prefixed())
	case p.accept("!"):
		return operation(api.OpEq, p.prefixed(), api.Expr{Kind: api.ExprNum})
	}
	return p.primary()
}

// negativeConstant parses the number after a prefix minus.
func (p *parser) negativeConstant() api.Expr {
	text := p.peek().Text
	p.next++
	// "-0" is not the text of a word.
	if text == "0" {
		return api.Expr{Kind: api.ExprNum}
	}
	// The lexer has rejected the numbers whose negation is not a word.
	n, _ := word.Parse("-" + text)
	return api.Expr{Kind: api.ExprNum, N: n}
}

func (p *parser) primary() api.Expr {
	switch {
	case p.peek().Kind == api.TokenNumber:
		return p.constant()
	case p.accept("("):
		inner := p.expression()
		p.expect(")")
		return inner
	}
	name := p.name()
	if p.accept("[") {
		return p.element(name)
	}
	return api.Expr{Kind: api.ExprVar, Name: name}
}

// constant parses a number that is not after a prefix minus.
func (p *parser) constant() api.Expr {
	n, ok := word.Parse(p.peek().Text)
	if !ok {
		p.fail()
		return api.Expr{}
	}
	p.next++
	return api.Expr{Kind: api.ExprNum, N: n}
}

// element parses the rest of an element of the array of this name.
func (p *parser) element(name string) api.Expr {
	index := p.expression()
	p.expect("]")
	return api.Expr{Kind: api.ExprIndex, Name: name, Kids: []api.Expr{index}}
}
