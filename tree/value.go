package tree

func (p *parser) value() {
	first := p.kind()
	second := p.kindAt(p.at + 1)
	if first == kindName && second == "=" {
		p.set()
	} else {
		p.or()
	}
}

func (p *parser) set() {
	p.open("set")
	p.need(kindName)
	p.need("=")
	p.value()
	p.close()
}

func (p *parser) or() {
	from := len(p.nodes)
	p.and()
	if p.kind() != "||" {
		return
	}
	p.openAround(from, "or")
	for p.kind() == "||" {
		p.take()
		p.and()
	}
	p.close()
}

func (p *parser) and() {
	from := len(p.nodes)
	p.rel()
	if p.kind() != "&&" {
		return
	}
	p.openAround(from, "and")
	for p.kind() == "&&" {
		p.take()
		p.rel()
	}
	p.close()
}

func (p *parser) rel() {
	from := len(p.nodes)
	p.sum()
	sign := p.kind()
	if !isRelSign(sign) {
		return
	}
	p.openAround(from, "rel")
	p.take()
	p.sum()
	p.close()
}

func isRelSign(kind string) bool {
	return kind == "==" || kind == "!=" || kind == "<" || kind == ">"
}

func (p *parser) sum() {
	from := len(p.nodes)
	p.prod()
	sign := p.kind()
	if !isSumSign(sign) {
		return
	}
	p.openAround(from, "sum")
	for isSumSign(sign) {
		p.take()
		p.prod()
		sign = p.kind()
	}
	p.close()
}

func isSumSign(kind string) bool {
	return kind == "+" || kind == "-"
}

func (p *parser) prod() {
	from := len(p.nodes)
	p.single()
	sign := p.kind()
	if !isProdSign(sign) {
		return
	}
	p.openAround(from, "prod")
	for isProdSign(sign) {
		p.take()
		p.single()
		sign = p.kind()
	}
	p.close()
}

func isProdSign(kind string) bool {
	return kind == "*" || kind == "/"
}

func (p *parser) single() {
	switch p.kind() {
	case "-", "!":
		p.neg()
	case "(":
		p.group()
	case kindName:
		p.nameOrCall()
	default:
		p.need(kindNumber)
	}
}

func (p *parser) neg() {
	p.open("neg")
	p.take()
	p.single()
	p.close()
}

func (p *parser) group() {
	p.open("group")
	p.need("(")
	p.value()
	p.need(")")
	p.close()
}

func (p *parser) nameOrCall() {
	from := len(p.nodes)
	p.need(kindName)
	if p.kind() != "(" {
		return
	}
	p.openAround(from, "call")
	p.take()
	if p.kind() != ")" {
		p.values()
	}
	p.need(")")
	p.close()
}

func (p *parser) values() {
	p.value()
	for p.kind() == "," {
		p.take()
		p.value()
	}
}
