package tree

import (
	"fmt"
	"regexp"
	"strconv"
	"strings"
	"testing"

	"treediff/api"
)

// A second way to carry scripts out, to hold Patch against: a tree of
// pointers with labels as they are written, and steps told by patterns.
type modelNode struct {
	label    string
	parent   *modelNode
	children []*modelNode
}

// Reads what Show writes of a program.
func modelOf(written string) *modelNode {
	top := &modelNode{}
	at := top
	for _, word := range strings.Split(written, " ") {
		label := strings.TrimRight(strings.TrimPrefix(word, "("), ")")
		n := &modelNode{label: label, parent: at}
		at.children = append(at.children, n)
		if strings.HasPrefix(word, "(") {
			at = n
		}
		for closed := strings.Count(word, ")"); closed > 0; closed-- {
			at = at.parent
		}
	}
	root := top.children[0]
	root.parent = nil
	return root
}

func modelOfText(t *testing.T, text string) *modelNode {
	t.Helper()
	written, err, _ := Show(text)
	if err != api.OK {
		t.Fatalf("Show(%q) = %d", text, err)
	}
	return modelOf(written)
}

func (n *modelNode) isInner() bool { return strings.HasPrefix(n.label, "@") }

func (n *modelNode) all() []*modelNode {
	list := []*modelNode{n}
	for _, child := range n.children {
		list = append(list, child.all()...)
	}
	return list
}

func (n *modelNode) written() string {
	if !n.isInner() {
		return n.label
	}
	out := "(" + n.label
	for _, child := range n.children {
		out += " " + child.written()
	}
	return out + ")"
}

func (n *modelNode) leafText() string {
	if n.isInner() {
		out := ""
		for _, child := range n.children {
			out += child.leafText()
		}
		return out
	}
	text, _ := strconv.Unquote(`"` + strings.ReplaceAll(n.label[1:], `"`, `\x22`) + `"`)
	return text
}

func (n *modelNode) index() int {
	for k, other := range n.parent.children {
		if other == n {
			return k
		}
	}
	return -1
}

func (n *modelNode) replace(from int, to int, with []*modelNode) {
	for _, child := range with {
		child.parent = n
	}
	var list []*modelNode
	list = append(list, n.children[:from]...)
	list = append(list, with...)
	n.children = append(list, n.children[to:]...)
}

const (
	numberPattern = `(0|[1-9][0-9]{0,5})`
	labelPattern  = `(@[^ \n]*|'(?:[!-'*-\[\]-~]|\\x(?:[01][0-9a-f]|20|28|29|5c|7f|[89a-f][0-9a-f]))*)`
)

var (
	renamePattern = regexp.MustCompile(`^r ` + numberPattern + ` ` + labelPattern + `$`)
	deletePattern = regexp.MustCompile(`^d ` + numberPattern + `$`)
	insertPattern = regexp.MustCompile(`^i ` + numberPattern + ` ` + numberPattern + ` ` + numberPattern + ` ` + labelPattern + `$`)
)

func (n *modelNode) step(line string) bool {
	all := n.all()
	number := func(word string) int {
		value, _ := strconv.Atoi(word)
		return value
	}
	if m := renamePattern.FindStringSubmatch(line); m != nil {
		k := number(m[1])
		if k == 0 || k >= len(all) || len(all[k].children) > 0 && m[2][0] == '\'' {
			return false
		}
		all[k].label = m[2]
		return true
	}
	if m := deletePattern.FindStringSubmatch(line); m != nil {
		k := number(m[1])
		if k == 0 || k >= len(all) {
			return false
		}
		place := all[k].index()
		all[k].parent.replace(place, place+1, all[k].children)
		return true
	}
	if m := insertPattern.FindStringSubmatch(line); m != nil {
		p, i, count := number(m[1]), number(m[2]), number(m[3])
		if p >= len(all) || !all[p].isInner() || i+count > len(all[p].children) || count > 0 && m[4][0] == '\'' {
			return false
		}
		put := &modelNode{label: m[4]}
		put.replace(0, 0, all[p].children[i:i+count])
		all[p].replace(i, i+count, []*modelNode{put})
		return true
	}
	return false
}

func modelPatch(a string, d string) (string, api.Errno, int) {
	written, err, _ := Show(a)
	if err != api.OK {
		return "", err, 0
	}
	if len(d) > api.MaxScript {
		return "", api.ErrLong, 0
	}
	root := modelOf(written)
	lines := strings.Split(d, "\n")
	last := len(lines) - 1
	for k, line := range lines[:last] {
		if !root.step(line) {
			return "", api.ErrScript, k + 1
		}
	}
	if lines[last] != "" {
		return "", api.ErrScript, len(lines)
	}
	text := root.leafText()
	written, err, _ = Show(text)
	if err != api.OK || written != root.written() {
		return "", api.ErrProgram, 0
	}
	return text, api.OK, 0
}

// A made program within the bounds.
func (m *maker) sound() string {
	for {
		next := maker{seed: uint32(m.below(1 << 15))}
		next.program(next.below(3), 1+next.below(6))
		if next.wants() == api.OK {
			return next.text
		}
	}
}

func (m *maker) label() string {
	return []string{"@", "@x", "@block", "@expr", "@\xff(", "@a@'", "'", "'a", "';", `'\x20`, `'\x0a//`, `'"`, "'}"}[m.below(13)]
}

// A step that mostly can be carried out on a tree of so many nodes.
func (m *maker) step(nodes int) string {
	k := m.below(nodes + 1)
	switch m.below(4) {
	case 0:
		return fmt.Sprintf("r %d %s", k, m.label())
	case 1:
		return fmt.Sprintf("d %d", k)
	}
	return fmt.Sprintf("i %d %d %d %s", k, m.below(4), m.below(4), m.label())
}

func TestPatchByAnyStepsAgainstModel(t *testing.T) {
	seen := map[api.Errno]int{}
	for k := 0; k < 3000; k++ {
		m := &maker{seed: uint32(k)}
		a := m.sound()
		root := modelOfText(t, a)
		d := ""
		for count := m.below(12); count > 0; count-- {
			line := m.step(len(root.all()))
			if root.step(line) || m.below(20) == 0 {
				d += line + "\n"
			}
		}
		seen[checkAgainstModel(t, a, d)]++
		checkSpoiled(t, m, a, d)
	}
	for _, err := range []api.Errno{api.OK, api.ErrScript, api.ErrProgram} {
		if seen[err] < 100 {
			t.Errorf("only %d of the scripts end with %d", seen[err], err)
		}
	}
}

func checkAgainstModel(t *testing.T, a string, d string) api.Errno {
	t.Helper()
	text, err, line := modelPatch(a, d)
	got, gotErr, gotLine := Patch(a, d)
	if got != text || gotErr != err || gotLine != line {
		t.Errorf("Patch(%q, %q) = %q, %d, %d, want %q, %d, %d", a, d, got, gotErr, gotLine, text, err, line)
	}
	return err
}

const spoilers = " \n0123456789rdi@'\\xaf()\t\r\x00\xff"

// The same script with one byte put in, taken away or made another.
func checkSpoiled(t *testing.T, m *maker, a string, d string) {
	t.Helper()
	at := m.below(len(d) + 1)
	other := string([]byte{spoilers[m.below(len(spoilers))]})
	checkAgainstModel(t, a, d[:at]+other+d[at:])
	if at < len(d) {
		checkAgainstModel(t, a, d[:at]+d[at+1:])
		checkAgainstModel(t, a, d[:at]+other+d[at+1:])
	}
}

// Steps there and, from the last to the first, their opposites: back to a.
func TestPatchThereAndBack(t *testing.T) {
	for k := 0; k < 1000; k++ {
		m := &maker{seed: uint32(k)}
		a := m.sound()
		root := modelOfText(t, a)
		there, back := "", ""
		for count := 1 + m.below(30); count > 0; count-- {
			line, opposite := m.stepAndOpposite(root)
			if !root.step(line) {
				t.Fatalf("%q cannot be carried out", line)
			}
			there += line + "\n"
			back = opposite + "\n" + back
		}
		wantPatch(t, a, there+back, a)
	}
}

func (m *maker) stepAndOpposite(root *modelNode) (string, string) {
	all := root.all()
	k := m.below(len(all))
	n := all[k]
	if k > 0 && m.below(3) == 0 {
		label := m.label()
		if len(n.children) > 0 {
			label = "@x"
		}
		return fmt.Sprintf("r %d %s", k, label), fmt.Sprintf("r %d %s", k, n.label)
	}
	if k > 0 && m.below(2) == 0 {
		return fmt.Sprintf("d %d", k), fmt.Sprintf("i %d %d %d %s", numberOf(all, n.parent), n.index(), len(n.children), n.label)
	}
	for !n.isInner() {
		n = n.parent
	}
	i := m.below(len(n.children) + 1)
	count := m.below(len(n.children) - i + 1)
	put := numberOf(all, n) + 1
	for _, child := range n.children[:i] {
		put += len(child.all())
	}
	return fmt.Sprintf("i %d %d %d @y", numberOf(all, n), i, count), fmt.Sprintf("d %d", put)
}

func numberOf(all []*modelNode, n *modelNode) int {
	for k, other := range all {
		if other == n {
			return k
		}
	}
	return -1
}

// Everything of a is taken away, and everything of b put in: once each node
// below its parent, once the leaves and then the nodes around them.
func TestPatchFromAnyToAny(t *testing.T) {
	for k := 0; k < 1000; k++ {
		m := &maker{seed: uint32(k)}
		a, b := m.sound(), m.sound()
		from, to := modelOfText(t, a), modelOfText(t, b)
		cleared := strings.Repeat("d 1\n", len(from.all())-1)
		wantPatch(t, a, cleared+downward(to), b)
		wantPatch(t, a, cleared+upward(to), b)
	}
}

func downward(root *modelNode) string {
	d := ""
	all := root.all()
	for _, n := range all[1:] {
		d += fmt.Sprintf("i %d %d 0 %s\n", numberOf(all, n.parent), n.index(), n.label)
	}
	return d
}

func upward(root *modelNode) string {
	d := ""
	for k, child := range root.children {
		d += raised(child, k)
	}
	return d
}

// The node comes to be the root's child of that index.
func raised(n *modelNode, index int) string {
	d := ""
	for k, child := range n.children {
		d += raised(child, index+k)
	}
	return d + fmt.Sprintf("i 0 %d %d %s\n", index, len(n.children), n.label)
}
