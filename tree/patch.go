package tree

import "treediff/api"

// What a script makes of a tree and 0; or the number, from 1 on, of the first
// line that is no step or cannot be carried out.
func carryOut(nodes []node, script string) ([]node, int) {
	line := 1
	at := 0
	for at < len(script) {
		end := lineEnd(script, at)
		if end >= len(script) {
			return nil, line
		}
		s, isStep := readStep(script[at:end])
		if !isStep {
			return nil, line
		}
		made, isDone := s.carryOut(nodes)
		if !isDone {
			return nil, line
		}
		nodes = made
		line++
		at = end + 1
	}
	return nodes, 0
}

func (s step) carryOut(nodes []node) ([]node, bool) {
	switch s.kind {
	case "r":
		return rename(nodes, s.at, s.label)
	case "d":
		return remove(nodes, s.at)
	case "i":
		return s.insert(nodes)
	}
	return nil, false
}

func rename(nodes []node, k int, label node) ([]node, bool) {
	if k < 1 || k >= len(nodes) {
		return nil, false
	}
	if !label.inner && subtreeEnd(nodes, k) > k+1 {
		return nil, false
	}
	label.depth = nodes[k].depth
	made := lowered(nodes, 0)
	made[k] = label
	return made, true
}

func remove(nodes []node, k int) ([]node, bool) {
	if k < 1 || k >= len(nodes) {
		return nil, false
	}
	end := subtreeEnd(nodes, k)
	children := lowered(nodes[k+1:end], -1)
	made := lowered(nodes[:k], 0)
	made = append(made, children...)
	made = append(made, nodes[end:]...)
	return made, true
}

func (s step) insert(nodes []node) ([]node, bool) {
	if s.at >= len(nodes) || !nodes[s.at].inner {
		return nil, false
	}
	if s.count > 0 && !s.label.inner {
		return nil, false
	}
	parentEnd := subtreeEnd(nodes, s.at)
	from, hasFirst := pastSubtrees(nodes, s.at+1, parentEnd, s.first)
	end, hasAll := pastSubtrees(nodes, from, parentEnd, s.count)
	if !hasFirst || !hasAll {
		return nil, false
	}
	label := s.label
	label.depth = nodes[s.at].depth + 1
	children := lowered(nodes[from:end], 1)
	made := lowered(nodes[:from], 0)
	made = append(made, label)
	made = append(made, children...)
	made = append(made, nodes[end:]...)
	return made, true
}

// The number of the first node behind node k and all that is below it.
func subtreeEnd(nodes []node, k int) int {
	end := k + 1
	for end < len(nodes) && nodes[end].depth > nodes[k].depth {
		end++
	}
	return end
}

// Where so many subtrees, one behind the other from a node on, end; false if
// fewer lie ahead of limit.
func pastSubtrees(nodes []node, from int, limit int, count int) (int, bool) {
	at := from
	for k := 0; k < count; k++ {
		if at >= limit {
			return at, false
		}
		at = subtreeEnd(nodes, at)
	}
	return at, true
}

// A fresh list of the nodes, each deeper by so much.
func lowered(nodes []node, by int) []node {
	var list []node
	for _, n := range nodes {
		n.depth += by
		list = append(list, n)
	}
	return list
}

func leafText(nodes []node) string {
	text := ""
	for _, n := range nodes {
		if !n.inner {
			text += n.text
		}
	}
	return text
}

// A text with an error, a bound that is passed among them, has no tree.
func isTreeOf(nodes []node, text string) bool {
	want, err, _ := read(text)
	if err != api.OK || len(nodes) != len(want) {
		return false
	}
	for k, n := range nodes {
		if n != want[k] {
			return false
		}
	}
	return true
}
