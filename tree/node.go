package tree

// A tree is the list of its nodes, each ahead of its children, and these from
// left to right: a node's number is its index. The depths alone tell which
// node stands below which.
type node struct {
	inner bool
	text  string // an inner node's kind, a leaf's text
	depth int    // 0 for the root
}

func (n node) label() string {
	if n.inner {
		return "@" + n.text
	}
	return "'" + escaped(n.text)
}

const hexDigits = "0123456789abcdef"

func escaped(text string) string {
	var out []byte
	for at := 0; at < len(text); at++ {
		c := text[at]
		if isPlain(c) {
			out = append(out, c)
		} else {
			out = append(out, '\\', 'x', hexDigits[c/16], hexDigits[c%16])
		}
	}
	return string(out)
}

// Whether a label holds the byte as it is: blanks, parentheses and the
// backslash would be mistaken for what parts or escapes labels.
func isPlain(c byte) bool {
	if c == '\\' || c == '(' || c == ')' {
		return false
	}
	return c >= 33 && c <= 126
}

// A node has just as many inner nodes open around it as its depth says, so
// what is open beyond that is closed ahead of it.
func written(nodes []node) string {
	out := ""
	open := 0
	for k, n := range nodes {
		out += closing(open - n.depth)
		open = n.depth
		if k > 0 {
			out += " "
		}
		if n.inner {
			out += "("
			open++
		}
		out += n.label()
	}
	out += closing(open)
	return out
}

func closing(count int) string {
	out := ""
	for k := 0; k < count; k++ {
		out += ")"
	}
	return out
}

// The root has depth 0, so an inner node's depth is the number of inner nodes
// within each other down to it, the root not counted.
func innerDepth(nodes []node) int {
	deepest := 0
	for _, n := range nodes {
		if n.inner && n.depth > deepest {
			deepest = n.depth
		}
	}
	return deepest
}
