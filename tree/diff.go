package tree

// Which nodes of the one tree become which of the other: at a node's number
// the number of its partner, or 0 if it has none. Only the root's is the root.
type partners struct {
	ofFrom []int
	ofTo   []int
}

// A script of the fewest steps that make the one tree the other.
func fewestScript(from []node, to []node) string {
	c := compare(from, to)
	p := partners{ofFrom: make([]int, len(from)), ofTo: make([]int, len(to))}
	p.pairBelow(c, 0, 0)
	script := p.changes(c)
	script += p.additions(c)
	return script
}

// The table that told the fewest steps below two partners is followed from
// its beginning, along one of the ways on which so few are told.
func (p *partners) pairBelow(c comparison, k int, l int) {
	steps := c.stepsBelow(k, l)
	from := k + 1
	to := l + 1
	for from < c.fromEnds[k] && to < c.toEnds[l] {
		fewest := steps[from-k-1][to-l-1]
		if fewest == steps[from-k][to-l-1]+1 {
			from++
		} else if fewest == steps[from-k-1][to-l]+1 {
			to++
		} else {
			p.ofFrom[from] = to
			p.ofTo[to] = from
			p.pairBelow(c, from, to)
			from = c.fromEnds[from]
			to = c.toEnds[to]
		}
	}
}

// From the last node to the first: so a step leaves the numbers of those that
// are still to come as they were, and a node that becomes a leaf has lost all
// that stood below it.
func (p partners) changes(c comparison) string {
	script := ""
	for k := len(c.from) - 1; k > 0; k-- {
		partner := p.ofFrom[k]
		if partner == 0 {
			removal := step{kind: "d", at: k}
			script += removal.line()
		} else if !isAlike(c.from[k], c.to[partner]) {
			renaming := step{kind: "r", at: k, label: c.to[partner]}
			script += renaming.line()
		}
	}
	return script
}

// From the first node to the last: so all nodes ahead of the one that is put
// in are there, and have the numbers that they keep.
func (p partners) additions(c comparison) string {
	script := ""
	for l := 1; l < len(c.to); l++ {
		if p.ofTo[l] == 0 {
			parent := parentOf(c.to, l)
			addition := step{kind: "i", at: parent, label: c.to[l]}
			addition.first = siblingsAhead(c.to, parent, l)
			addition.count = p.uppermostBelow(c, l)
			script += addition.line()
		}
	}
	return script
}

// How many nodes that are there already come to be children of node l when it
// is put in: those below it that have no other such node between.
func (p partners) uppermostBelow(c comparison, l int) int {
	count := 0
	at := l + 1
	for at < c.toEnds[l] {
		if p.ofTo[at] == 0 {
			at++
		} else {
			count++
			at = c.toEnds[at]
		}
	}
	return count
}

func parentOf(nodes []node, k int) int {
	parent := k
	for parent > 0 && nodes[parent].depth >= nodes[k].depth {
		parent--
	}
	return parent
}

func siblingsAhead(nodes []node, parent int, k int) int {
	count := 0
	for at := parent + 1; at < k; at++ {
		if nodes[at].depth == nodes[k].depth {
			count++
		}
	}
	return count
}
