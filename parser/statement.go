package parser

import "fulling/api"

// statements parses statements up to the end of their block, or to the return of their function.
func (p *parser) statements() []api.Stmt {
	var statements []api.Stmt
	for !p.failed && !p.isNext("}") && !p.isNext("return") {
		statements = append(statements, p.statement())
	}
	return statements
}

func (p *parser) statement() api.Stmt {
	switch {
	case p.accept("if"):
		return p.ifStatement()
	case p.accept("while"):
		return p.whileStatement()
	case p.accept("out"):
		return p.outStatement()
	case p.accept("trap"):
		return p.trapStatement()
	}
	name := p.name()
	if p.accept("[") {
		return p.store(name)
	}
	p.expect("=")
	if p.startsCall() {
		return p.call(name)
	}
	return p.assignment(name)
}

// ifStatement parses the rest of an if statement.
func (p *parser) ifStatement() api.Stmt {
	statement := api.Stmt{Kind: api.StmtIf, Value: p.condition()}
	statement.Then = p.block()
	if p.accept("else") {
		statement.Else = p.block()
	}
	return statement
}

// whileStatement parses the rest of a while statement.
func (p *parser) whileStatement() api.Stmt {
	condition := p.condition()
	return api.Stmt{Kind: api.StmtWhile, Value: condition, Then: p.block()}
}

// condition parses an expression in parentheses.
func (p *parser) condition() api.Expr {
	p.expect("(")
	value := p.expression()
	p.expect(")")
	return value
}

func (p *parser) block() []api.Stmt {
	p.expect("{")
	statements := p.statements()
	p.expect("}")
	return statements
}

// outStatement parses the rest of an out statement.
func (p *parser) outStatement() api.Stmt {
	value := p.expression()
	p.expect(";")
	return api.Stmt{Kind: api.StmtOut, Value: value}
}

// trapStatement parses the rest of a trap statement.
func (p *parser) trapStatement() api.Stmt {
	code := p.number()
	p.expect(";")
	return api.Stmt{Kind: api.StmtTrap, N: code}
}

// store parses the rest of a store to the array of this name.
func (p *parser) store(name string) api.Stmt {
	index := p.expression()
	p.expect("]")
	p.expect("=")
	value := p.expression()
	p.expect(";")
	return api.Stmt{Kind: api.StmtStore, Name: name, At: index, Value: value}
}

// startsCall looks two tokens ahead, because a NAME alone may also start an expression.
func (p *parser) startsCall() bool {
	if !isName(p.peek()) || p.next+1 >= len(p.tokens) {
		return false
	}
	return p.tokens[p.next+1].Text == "("
}

// call parses the rest of a call whose result is assigned to the variable of this name.
func (p *parser) call(name string) api.Stmt {
	to := p.name()
	args := parenthesizedList(p, p.expression)
	p.expect(";")
	return api.Stmt{Kind: api.StmtCall, Name: name, To: to, Args: args}
}

// assignment parses the rest of an assignment to the variable of this name.
func (p *parser) assignment(name string) api.Stmt {
	value := p.expression()
	p.expect(";")
	return api.Stmt{Kind: api.StmtAssign, Name: name, Value: value}
}
