package tree

import "treediff/api"

// A parser fails at most once: from then on the next token is none, which
// nothing takes, so that every loop and every call below comes to its end and
// at stays at the token that could not stand.
type parser struct {
	tokens []token
	at     int
	failed bool
	nodes  []node
	depth  int // of the node that is laid next
}

// The tree of a program, or what is wrong with the text and where (P2).
func read(s string) ([]node, api.Errno, int) {
	if len(s) > api.MaxText {
		return nil, api.ErrLong, 0
	}
	p := parser{tokens: scan(s)}
	p.program()
	if p.failed {
		return nil, api.ErrSyntax, p.place()
	}
	if innerDepth(p.nodes) > api.MaxDepth {
		return nil, api.ErrDeep, 0
	}
	if len(p.nodes) > api.MaxNodes {
		return nil, api.ErrBig, 0
	}
	return p.nodes, api.OK, 0
}

func (p *parser) place() int {
	if p.at >= len(p.tokens) {
		return 0
	}
	return p.tokens[p.at].place
}

func (p *parser) kindAt(at int) string {
	if p.failed || at >= len(p.tokens) {
		return kindNone
	}
	return p.tokens[at].kind
}

func (p *parser) kind() string {
	return p.kindAt(p.at)
}

func (p *parser) take() {
	if p.failed || p.at >= len(p.tokens) {
		return
	}
	text := p.tokens[p.at].text
	p.nodes = append(p.nodes, node{inner: false, text: text, depth: p.depth})
	p.at++
}

func (p *parser) need(kind string) {
	if p.kind() == kind {
		p.take()
	} else {
		p.failed = true
	}
}

func (p *parser) open(kind string) {
	p.nodes = append(p.nodes, node{inner: true, text: kind, depth: p.depth})
	p.depth++
}

// What has been laid from a node on becomes the beginning of a new node:
// whether a value is one part or several is only seen behind its first part.
func (p *parser) openAround(from int, kind string) {
	p.open(kind)
	opened := len(p.nodes) - 1
	for k := opened; k > from; k-- {
		moved := p.nodes[k-1]
		moved.depth++
		p.nodes[k] = moved
	}
	p.nodes[from] = node{inner: true, text: kind, depth: p.depth - 1}
}

func (p *parser) close() {
	p.depth--
}

func (p *parser) program() {
	p.open("program")
	for !p.failed && p.kind() != kindEnd {
		p.function()
	}
	p.need(kindEnd)
	p.close()
}

func (p *parser) function() {
	p.open("function")
	p.need(kindType)
	p.need(kindName)
	p.need("(")
	if p.kind() != ")" {
		p.params()
	}
	p.need(")")
	p.block()
	p.close()
}

func (p *parser) params() {
	p.param()
	for p.kind() == "," {
		p.take()
		p.param()
	}
}

func (p *parser) param() {
	p.open("param")
	p.need(kindType)
	p.need(kindName)
	p.close()
}
