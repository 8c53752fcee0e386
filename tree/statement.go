package tree

// What begins no other statement can only be an expr, or fails as one at its
// first token.
func (p *parser) statement() {
	switch p.kind() {
	case "{":
		p.block()
	case ";":
		p.emptyStatement()
	case "if":
		p.ifStatement()
	case "while":
		p.whileStatement()
	case "return":
		p.returnStatement()
	case kindType:
		p.local()
	default:
		p.expr()
	}
}

func (p *parser) block() {
	p.open("block")
	p.need("{")
	for !p.failed && p.kind() != "}" {
		p.statement()
	}
	p.need("}")
	p.close()
}

func (p *parser) emptyStatement() {
	p.open("empty")
	p.need(";")
	p.close()
}

// The innermost call is the first to see an else, so the nearest if gets it.
func (p *parser) ifStatement() {
	p.open("if")
	p.need("if")
	p.condition()
	p.statement()
	if p.kind() == "else" {
		p.take()
		p.statement()
	}
	p.close()
}

func (p *parser) whileStatement() {
	p.open("while")
	p.need("while")
	p.condition()
	p.statement()
	p.close()
}

// Not a group: its parentheses are children of the if or while itself.
func (p *parser) condition() {
	p.need("(")
	p.value()
	p.need(")")
}

func (p *parser) returnStatement() {
	p.open("return")
	p.need("return")
	if p.kind() != ";" {
		p.value()
	}
	p.need(";")
	p.close()
}

func (p *parser) local() {
	p.open("local")
	p.need(kindType)
	p.need(kindName)
	if p.kind() == "=" {
		p.take()
		p.value()
	}
	p.need(";")
	p.close()
}

func (p *parser) expr() {
	p.open("expr")
	p.value()
	p.need(";")
	p.close()
}
