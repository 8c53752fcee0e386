package tree

import "strconv"

// A step as its line tells it. What a kind of step has no word for is zero.
type step struct {
	kind  string // "r", "d" or "i"
	at    int    // K, or P
	first int    // I
	count int    // N
	label node   // its depth means nothing: that is told by where it is put
}

// The line that readStep reads as the step, with the line feed that ends it.
func (s step) line() string {
	out := s.kind + " " + strconv.Itoa(s.at)
	if s.kind == "i" {
		out += " " + strconv.Itoa(s.first)
		out += " " + strconv.Itoa(s.count)
	}
	if s.kind != "d" {
		out += " " + s.label.label()
	}
	return out + "\n"
}

// Whether the line is a step says nothing yet of the tree it is meant for.
func readStep(line string) (step, bool) {
	list := words(line)
	if len(list) == 3 && list[0] == "r" {
		return readRename(list[1], list[2])
	}
	if len(list) == 2 && list[0] == "d" {
		return readDelete(list[1])
	}
	if len(list) == 5 && list[0] == "i" {
		return readInsert(list[1], list[2], list[3], list[4])
	}
	return step{}, false
}

func readRename(at string, label string) (step, bool) {
	k, isNumber := readNumber(at)
	n, isLabel := readLabel(label)
	return step{kind: "r", at: k, label: n}, isNumber && isLabel
}

func readDelete(at string) (step, bool) {
	k, isNumber := readNumber(at)
	return step{kind: "d", at: k}, isNumber
}

func readInsert(at string, first string, count string, label string) (step, bool) {
	p, isParent := readNumber(at)
	i, isFirst := readNumber(first)
	n, isCount := readNumber(count)
	put, isLabel := readLabel(label)
	made := step{kind: "i", at: p, first: i, count: n, label: put}
	return made, isParent && isFirst && isCount && isLabel
}

// One blank parts two words, so two blanks have an empty word between them,
// which is neither a number nor a label.
func words(line string) []string {
	var list []string
	from := 0
	for at := 0; at < len(line); at++ {
		if line[at] == ' ' {
			list = append(list, line[from:at])
			from = at + 1
		}
	}
	list = append(list, line[from:])
	return list
}

const maxDigits = 6

func readNumber(word string) (int, bool) {
	if word == "" || len(word) > maxDigits {
		return 0, false
	}
	if word[0] == '0' && len(word) > 1 {
		return 0, false
	}
	value := 0
	for at := 0; at < len(word); at++ {
		if !isDigit(word[at]) {
			return 0, false
		}
		value = value*10 + int(word[at]-'0')
	}
	return value, true
}

// A word of a line holds no blank and no line feed, and that is all that may
// not follow an `@`.
func readLabel(word string) (node, bool) {
	if word == "" {
		return node{}, false
	}
	if word[0] == '@' {
		return node{inner: true, text: word[1:]}, true
	}
	if word[0] == '\'' {
		text, ok := unescaped(word[1:])
		return node{inner: false, text: text}, ok
	}
	return node{}, false
}

// The text that is written so; false if a byte is written otherwise than
// escaped writes it.
func unescaped(written string) (string, bool) {
	var out []byte
	at := 0
	for at < len(written) {
		c, size := unescapedByte(written, at)
		if size == 0 {
			return "", false
		}
		out = append(out, c)
		at += size
	}
	return string(out), true
}

// The byte that is written at a place, and how many bytes it takes to write
// it: none, if it is not written as it must be.
func unescapedByte(written string, at int) (byte, int) {
	if at >= len(written) {
		return 0, 0
	}
	if isPlain(written[at]) {
		return written[at], 1
	}
	if at+4 > len(written) || !isPair(written, at, '\\', 'x') {
		return 0, 0
	}
	high := hexValue(written[at+2])
	low := hexValue(written[at+3])
	if high < 0 || low < 0 {
		return 0, 0
	}
	c := byte(high*16 + low)
	if isPlain(c) {
		return 0, 0
	}
	return c, 4
}

func hexValue(digit byte) int {
	for value := 0; value < len(hexDigits); value++ {
		if hexDigits[value] == digit {
			return value
		}
	}
	return -1
}
