package tree

import (
	"fmt"
	"strings"
	"testing"

	"treediff/api"
)

// A maker writes a program and its tree side by side, from the grammar down,
// with a fixed row of numbers in the place of chance.
type maker struct {
	seed    uint32
	text    string
	tree    string
	last    string // the token before
	nodes   int
	depth   int
	deepest int
}

func (m *maker) below(n int) int {
	m.seed = m.seed*1664525 + 1013904223
	return int(m.seed>>16) % n
}

// Whether only the smallest parts may follow, so that every program ends.
func (m *maker) full(room int) bool {
	return room <= 0 || m.nodes > api.MaxNodes
}

func (m *maker) open(kind string) {
	if m.tree != "" {
		m.tree += " "
		m.depth++
	}
	m.tree += "(@" + kind
	m.nodes++
	m.deepest = max(m.deepest, m.depth)
}

func (m *maker) close() {
	m.tree += ")"
	m.depth--
}

func isWord(text string) bool {
	return text != "" && strings.Contains("abcdefghijklmnopqrstuvwxyzABCDEFGHIJKLMNOPQRSTUVWXYZ0123456789_", text[:1])
}

// What stands ahead of a token. Two words must not touch, and a comment
// behind `/` would take its sign along.
func (m *maker) ahead(text string) string {
	choice := m.below(12)
	if choice < 5 && !(isWord(m.last) && isWord(text)) {
		return ""
	}
	if choice < 8 || m.last == "/" {
		return []string{" ", "\t", "\r\n"}[m.below(3)]
	}
	return []string{"/**/", "/* (a) */ ", "//b\\\n", "/*/ é\x80*/", "\n//\n", "// a remark of some length\n"}[m.below(6)]
}

func (m *maker) leaf(text string) {
	whole := m.ahead(text) + text
	m.text += whole
	m.tree += " '"
	for _, c := range []byte(whole) {
		if c > 32 && c < 127 && !strings.Contains(`\()`, string(rune(c))) {
			m.tree += string(rune(c))
		} else {
			m.tree += fmt.Sprintf(`\x%02x`, c)
		}
	}
	m.nodes++
	m.last = text
}

func (m *maker) oneOf(texts ...string) {
	m.leaf(texts[m.below(len(texts))])
}

func (m *maker) name() { m.oneOf("a", "_b1", "Int", "if0", "whilea", "returns", "X") }
func (m *maker) kind() { m.oneOf("int", "char", "void") }

func (m *maker) program(functions int, room int) {
	m.open("program")
	for k := 0; k < functions; k++ {
		m.open("function")
		m.kind()
		m.name()
		m.leaf("(")
		for count := m.below(3); count > 0; count-- {
			m.open("param")
			m.kind()
			m.name()
			m.close()
			if count > 1 {
				m.leaf(",")
			}
		}
		m.leaf(")")
		m.block(room)
		m.close()
	}
	m.leaf("")
	m.close()
}

func (m *maker) block(room int) {
	m.open("block")
	m.leaf("{")
	for count := m.below(3); count > 0; count-- {
		m.statement(room - 1)
	}
	m.leaf("}")
	m.close()
}

func (m *maker) statement(room int) {
	choice := m.below(8)
	if m.full(room) {
		choice %= 4
	}
	switch choice {
	case 0:
		m.open("empty")
	case 1:
		m.open("return")
		m.leaf("return")
		if m.below(2) == 0 {
			m.value(room)
		}
	case 2:
		m.open("local")
		m.kind()
		m.name()
		if m.below(2) == 0 {
			m.leaf("=")
			m.value(room)
		}
	case 3, 4:
		m.open("expr")
		m.value(room)
	case 5:
		m.block(room)
		return
	case 6:
		m.ifStatement(room)
		return
	case 7:
		m.open("while")
		m.condition("while", room)
		m.statement(room - 1)
		m.close()
		return
	}
	m.leaf(";")
	m.close()
}

func (m *maker) condition(word string, room int) {
	m.leaf(word)
	m.leaf("(")
	m.value(room - 1)
	m.leaf(")")
}

// With an else, a block stands ahead of it: no if inside may take it.
func (m *maker) ifStatement(room int) {
	m.open("if")
	m.condition("if", room)
	if m.below(2) == 0 {
		m.block(room - 1)
		m.leaf("else")
	}
	m.statement(room - 1)
	m.close()
}

func (m *maker) value(room int) {
	if !m.full(room) && m.below(4) == 0 {
		m.open("set")
		m.name()
		m.leaf("=")
		m.value(room - 1)
		m.close()
	} else {
		m.level(0, room)
	}
}

var levels = []struct {
	kind  string
	signs []string
}{
	{"or", []string{"||"}},
	{"and", []string{"&&"}},
	{"rel", []string{"==", "!=", "<", ">"}},
	{"sum", []string{"+", "-"}},
	{"prod", []string{"*", "/"}},
}

func (m *maker) level(level int, room int) {
	if level == len(levels) {
		m.single(room)
		return
	}
	l := levels[level]
	if m.full(room) || m.below(5) > 0 {
		m.level(level+1, room)
		return
	}
	more := 1 + m.below(3)
	if l.kind == "rel" {
		more = 1
	}
	m.open(l.kind)
	m.level(level+1, room-1)
	for ; more > 0; more-- {
		m.oneOf(l.signs...)
		m.level(level+1, room-1)
	}
	m.close()
}

func (m *maker) single(room int) {
	choice := m.below(6)
	if m.full(room) {
		choice %= 3
	}
	switch choice {
	case 0:
		m.oneOf("0", "12", "007")
	case 1, 2:
		m.name()
	case 3:
		m.open("neg")
		m.oneOf("-", "!")
		m.single(room - 1)
		m.close()
	case 4:
		m.open("group")
		m.leaf("(")
		m.value(room - 1)
		m.leaf(")")
		m.close()
	case 5:
		m.open("call")
		m.name()
		m.leaf("(")
		for count := m.below(3); count > 0; count-- {
			m.value(room - 1)
			if count > 1 {
				m.leaf(",")
			}
		}
		m.leaf(")")
		m.close()
	}
}

func (m *maker) wants() api.Errno {
	if len(m.text) > api.MaxText {
		return api.ErrLong
	}
	if m.deepest > api.MaxDepth {
		return api.ErrDeep
	}
	if m.nodes > api.MaxNodes {
		return api.ErrBig
	}
	return api.OK
}

func TestShowOfMadePrograms(t *testing.T) {
	seen := map[api.Errno]int{}
	for k := 0; k < 6000; k++ {
		m := maker{seed: uint32(k)}
		m.program(m.below(3), 1+m.below(24))
		err := m.wants()
		seen[err]++
		if err == api.OK {
			wantTree(t, m.text, m.tree)
		} else {
			wantError(t, m.text, err, 0)
		}
	}
	for _, err := range []api.Errno{api.OK, api.ErrLong, api.ErrDeep, api.ErrBig} {
		if seen[err] < 10 {
			t.Errorf("only %d of the programs made have the error %d", seen[err], err)
		}
	}
}
