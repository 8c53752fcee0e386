package tree

import (
	"fmt"
	"testing"

	"treediff/api"
)

// The labels of the small trees: two of each kind, so that a rename may keep
// a node's kind or change it, and two that differ in their kind alone.
var smallLabels = []string{"@x", "@y", "'x", "'b"}

// Every tree of at most so many nodes below the root, as it is written, each
// with the numbers of those that are one step away.
type stepGraph struct {
	trees  []string
	number map[string]int
	next   [][]int
}

func newStepGraph(nodes int) *stepGraph {
	g := &stepGraph{number: map[string]int{}}
	g.add("(@program)")
	for k := 0; k < len(g.trees); k++ {
		var next []int
		for _, line := range linesFor(modelOf(g.trees[k])) {
			root := modelOf(g.trees[k])
			if root.step(line) && len(root.all())-1 <= nodes {
				next = append(next, g.add(root.written()))
			}
		}
		g.next = append(g.next, next)
	}
	return g
}

func (g *stepGraph) add(tree string) int {
	if _, isThere := g.number[tree]; !isThere {
		g.number[tree] = len(g.trees)
		g.trees = append(g.trees, tree)
	}
	return g.number[tree]
}

// All steps with those labels; some cannot be carried out.
func linesFor(root *modelNode) []string {
	var lines []string
	for k, n := range root.all() {
		lines = append(lines, fmt.Sprintf("d %d", k))
		for _, label := range smallLabels {
			lines = append(lines, fmt.Sprintf("r %d %s", k, label))
			for i := 0; i <= len(n.children); i++ {
				for count := 0; i+count <= len(n.children); count++ {
					lines = append(lines, fmt.Sprintf("i %d %d %d %s", k, i, count, label))
				}
			}
		}
	}
	return lines
}

// How many steps lead to each tree from one of them.
func (g *stepGraph) stepsFrom(start int) []int {
	steps := make([]int, len(g.trees))
	seen := make([]bool, len(g.trees))
	seen[start] = true
	for row := []int{start}; len(row) > 0; row = row[1:] {
		for _, k := range g.next[row[0]] {
			if !seen[k] {
				seen[k] = true
				steps[k] = steps[row[0]] + 1
				row = append(row, k)
			}
		}
	}
	return steps
}

func (n *modelNode) nodes(depth int) []node {
	list := []node{{inner: n.isInner(), text: n.label[1:], depth: depth}}
	for _, child := range n.children {
		list = append(list, child.nodes(depth+1)...)
	}
	return list
}

// The least number by its own words: the shortest way from step to step.
func TestFewestStepsByAllWays(t *testing.T) {
	g := newStepGraph(4)
	if len(g.trees) < 1000 {
		t.Fatalf("only %d trees", len(g.trees))
	}
	for from := 0; from < len(g.trees); from += 13 {
		for to, steps := range g.stepsFrom(from) {
			got := fewestSteps(modelOf(g.trees[from]).nodes(0), modelOf(g.trees[to]).nodes(0))
			if got != steps {
				t.Fatalf("from %s to %s: %d steps, want %d", g.trees[from], g.trees[to], got, steps)
			}
		}
	}
}

// A second reckoning, for trees of any size: nodes numbered each behind its
// children, and rows of subtrees told apart by their last node, not the first.
type reckoner struct {
	from, to rankedTree
	known    map[[4]int]int
}

type rankedTree struct {
	labels []string
	firsts []int // the least number in the node's subtree
}

func (r *rankedTree) add(n *modelNode) {
	first := len(r.labels)
	for _, child := range n.children {
		r.add(child)
	}
	r.labels = append(r.labels, n.label)
	r.firsts = append(r.firsts, first)
}

// The steps between the nodes from a up to, and without, b, and those from c
// up to, and without, d.
func (r *reckoner) steps(a int, b int, c int, d int) int {
	if a == b || c == d {
		return b - a + d - c
	}
	key := [4]int{a, b, c, d}
	if steps, isKnown := r.known[key]; isKnown {
		return steps
	}
	steps := 1 + min(r.steps(a, b-1, c, d), r.steps(a, b, c, d-1))
	first, second := r.from.firsts[b-1], r.to.firsts[d-1]
	both := r.steps(first, b-1, second, d-1) + r.steps(a, first, c, second)
	if r.from.labels[b-1] != r.to.labels[d-1] {
		both++
	}
	r.known[key] = min(steps, both)
	return r.known[key]
}

func reckoned(t *testing.T, a string, b string) int {
	t.Helper()
	r := &reckoner{known: map[[4]int]int{}}
	r.from.add(modelOfText(t, a))
	r.to.add(modelOfText(t, b))
	return r.steps(0, len(r.from.labels)-1, 0, len(r.to.labels)-1)
}

// A program that a few changes of its bytes make of another.
func (m *maker) near(a string) string {
	for tries := 0; tries < 1000; tries++ {
		b := a
		for count := 1 + m.below(3); count > 0; count-- {
			from := m.below(len(b) + 1)
			to := min(len(b), from+m.below(12))
			switch m.below(3) {
			case 0:
				b = b[:from] + b[to:]
			case 1:
				b = b[:to] + b[from:]
			case 2:
				b = b[:from] + []string{"a", "x1", ";", "{}", " ", "-", "int b;", "(a)", "f(1);", "a=", "+2"}[m.below(11)] + b[from:]
			}
		}
		_, err, _ := Show(b)
		if err == api.OK && b != a {
			return b
		}
	}
	return a + "\n"
}

func TestDistAndDiffOfMadePrograms(t *testing.T) {
	for k := 0; k < 400; k++ {
		m := &maker{seed: uint32(k)}
		a, b := m.sound(), m.sound()
		near := m.near(a)
		list := []stepsBetween{{a, b, reckoned(t, a, b)}, {a, near, reckoned(t, a, near)}}
		for _, c := range list {
			wantDist(t, c.a, c.b, c.steps)
		}
		wantDist(t, a, a, 0)
		wantDiffBothWays(t, list)
	}
}

// No way round is shorter than the way, and only of a program and itself is
// there none.
func TestDistOfThreePrograms(t *testing.T) {
	for k := 0; k < 400; k++ {
		m := &maker{seed: uint32(k)}
		a, c := m.sound(), m.sound()
		b := m.near(a)
		ab, _ := Dist(a, b)
		bc, _ := Dist(b, c)
		ac, _ := Dist(a, c)
		if ab > bc+ac || bc > ab+ac || ac > ab+bc {
			t.Errorf("between %q, %q and %q: %d, %d, %d steps", a, b, c, ab, bc, ac)
		}
		if (ab == 0) != (a == b) || (bc == 0) != (b == c) || (ac == 0) != (a == c) {
			t.Errorf("between %q, %q and %q: %d, %d, %d steps", a, b, c, ab, bc, ac)
		}
	}
}

// A script that makes b of a has no fewer steps than Dist tells.
func TestDistAndPatch(t *testing.T) {
	for _, c := range []struct {
		a, d  string
		steps int
	}{
		{"void f(){a;}", "i 8 0 1 @group\ni 9 0 0 '\\x28\ni 9 2 0 '\\x29\n", 3},
		{"void f(){;}", "d 9\nd 8\n", 2},
		{"void f(){;}", "r 8 @return\ni 8 0 0 'return\n", 2},
		{"void f(){}", "i 0 0 2 @x\nd 1\n", 0},
		{"void f(){}", "r 3 'g\nr 3 '\\x20g\n", 1},
	} {
		b, err, line := Patch(c.a, c.d)
		if err != api.OK || line != 0 {
			t.Errorf("Patch(%q, %q) = %d, %d", c.a, c.d, err, line)
		}
		wantDist(t, c.a, b, c.steps)
	}
}
