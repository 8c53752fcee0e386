package tree

// A comparison of two trees: for each node of the one and each of the other,
// the fewest steps that make of what stands below the one what stands below
// the other.
type comparison struct {
	from     []node
	to       []node
	fromEnds []int
	toEnds   []int
	below    [][]int
}

// No step touches a root, and the roots of programs are alike: what stands
// below them is all that steps have to change.
func fewestSteps(from []node, to []node) int {
	c := compare(from, to)
	return c.below[0][0]
}

// What stands below two nodes is reckoned by what stands below later ones, so
// the last nodes are the first to be compared.
func compare(from []node, to []node) comparison {
	c := comparison{from: from, to: to}
	c.fromEnds = subtreeEnds(from)
	c.toEnds = subtreeEnds(to)
	c.below = zeros(len(from), len(to))
	for k := len(from) - 1; k >= 0; k-- {
		for l := len(to) - 1; l >= 0; l-- {
			steps := c.stepsBelow(k, l)
			c.below[k][l] = steps[0][0]
		}
	}
	return c
}

// At i and j: the fewest steps between the nodes below k but for the first i,
// and the nodes below l but for the first j.
func (c comparison) stepsBelow(k int, l int) [][]int {
	rows := c.fromEnds[k] - k - 1
	columns := c.toEnds[l] - l - 1
	steps := zeros(rows+1, columns+1)
	for i := rows; i >= 0; i-- {
		for j := columns; j >= 0; j-- {
			if i == rows {
				steps[i][j] = columns - j
			} else if j == columns {
				steps[i][j] = rows - i
			} else {
				oneLess := least(steps[i+1][j], steps[i][j+1])
				paired := c.paired(k+1+i, l+1+j)
				pastFrom := c.fromEnds[k+1+i] - k - 1
				pastTo := c.toEnds[l+1+j] - l - 1
				steps[i][j] = least(oneLess+1, paired+steps[pastFrom][pastTo])
			}
		}
	}
	return steps
}

// The fewest steps between two subtrees if the one's top node becomes the
// other's. A leaf that becomes an inner node or the other way round costs no
// more: nodes can be taken away ahead of it, and put in behind it.
func (c comparison) paired(k int, l int) int {
	if isAlike(c.from[k], c.to[l]) {
		return c.below[k][l]
	}
	return c.below[k][l] + 1
}

func isAlike(n node, other node) bool {
	return n.inner == other.inner && n.text == other.text
}

func subtreeEnds(nodes []node) []int {
	var ends []int
	for k := range nodes {
		end := subtreeEnd(nodes, k)
		ends = append(ends, end)
	}
	return ends
}

func zeros(rows int, columns int) [][]int {
	var table [][]int
	for k := 0; k < rows; k++ {
		table = append(table, make([]int, columns))
	}
	return table
}

func least(a int, b int) int {
	if a < b {
		return a
	}
	return b
}
