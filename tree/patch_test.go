package tree

import (
	"strings"
	"testing"

	"treediff/api"
)

func wantPatch(t *testing.T, a string, d string, text string) {
	t.Helper()
	got, err, line := Patch(a, d)
	if got != text || err != api.OK || line != 0 {
		t.Errorf("Patch(%.60q, %.200q) = %.60q, %d, %d, want %.60q", a, d, got, err, line, text)
	}
}

func wantPatchError(t *testing.T, a string, d string, err api.Errno, line int) {
	t.Helper()
	got, gotErr, gotLine := Patch(a, d)
	if got != "" || gotErr != err || gotLine != line {
		t.Errorf("Patch(%.60q, %.200q) = %.60q, %d, %d, want error %d, line %d", a, d, got, gotErr, gotLine, err, line)
	}
}

func TestPatchOfPrograms(t *testing.T) {
	for _, c := range []struct{ a, d, text string }{
		{"", "", ""},
		{sample, "", sample},
		{"void f(){a;}", "i 8 0 1 @group\ni 9 0 0 '\\x28\ni 9 2 0 '\\x29\n", "void f(){(a);}"},
		{"void f(){;}", "d 9\nd 8\n", "void f(){}"},
		{"void f(){;}", "r 8 @return\ni 8 0 0 'return\n", "void f(){return;}"},
		{"void f(){}", "i 0 0 2 @x\nd 1\n", "void f(){}"},
		// A leaf may become an inner node, and an inner node without children a leaf.
		{"void f(){a;}", "r 9 @call\ni 9 0 0 'a\ni 9 1 0 '\\x28\ni 9 2 0 '\\x29\n", "void f(){a();}"},
		{"void f(){(a);}", "d 10\nd 10\nd 10\nr 9 'b\n", "void f(){b;}"},
		// Children that rise stand in the place of their node, ahead of what is behind it.
		{"void f(){(a);}", "d 10\nd 11\nd 9\n", "void f(){a;}"},
		{"void f(){{;;}}", "d 9\nd 13\nd 8\n", "void f(){;;}"},
		// A node is put ahead of, between and behind the children.
		{"void f(){;}", "i 6 1 0 @empty\ni 8 0 0 '\\x20;\n", "void f(){ ;;}"},
		{"void f(){;}", "i 6 2 0 @empty\ni 10 0 0 '\\x20;\n", "void f(){; ;}"},
		{"", "i 0 1 0 '//\nd 1\n", "//"},
		{"void f(){}", "d 9\ni 0 1 0 '\n", "void f(){}"},
		// What comes in between need not be a program.
		{"void f(){}", "i 0 0 1 @\nr 1 @if\nr 1 @\\(()\nd 1\n", "void f(){}"},
		{"void f(){}", "i 0 0 0 @\x00\x7f\xff\td@'\nd 1\n", "void f(){}"},
		{"void f(){}", "i 0 0 0 '\nr 1 '\\x00\\x0a\\x20\\x28\\x29\\x5c\\x7f\\xff\nd 1\n", "void f(){}"},
		{"void f(){}", "r 9 '\\x20//\\x5c\\x28\\x29\\xff!~\n", "void f(){} //\\()\xff!~"},
	} {
		wantPatch(t, c.a, c.d, c.text)
	}
}

// The nodes of `void f(){}` are 0 the root, 1 the function, 2 to 5 its
// leaves, 6 the block, 7 {, 8 }, 9 the end.
func TestLinesThatAreNoSteps(t *testing.T) {
	for _, line := range []string{
		"", " ", "x", "r", "d", "i", "R 3 'g", "D 9", "I 0 0 0 @x", "x 3 'g", "rr 3 'g", "#", "\r", "\x00",
		"d ", "d  9", " d 9", "d 9 ", "d\t9", "d9", "d 9 9", "d 9\r", "d x", "d 9x", "d x9", "d -1", "d +9", "d 0x9", "d 9.0", "d \xb9",
		"d 09", "d 00", "d 009", "d 0000009", "d 1000000", "d 9999999999999999999999", "d 18446744073709551625",
		"r 3", "r 3 ", "r 'g", "r 3 g", "r 3 \"g", "r 3  'g", "r  3 'g", "r 3 'g ", "r 3 'g 'h", "r 3 'g h", "r 03 'g", "r x 'g", "r 3\t'g", "r 3 @x ", "r 3 @x y",
		"r 3 (@x)", "r 3 \\x27g",
		"i 0 0 0", "i 0 0 @x", "i 0 0 0 ", "i 0 0 0 x", "i 0 0 0 @x ", "i 0 0 0 @x y", "i 0 0 0 0 @x", "i  0 0 0 @x", "i 0  0 0 @x", "i 0 0  0 @x", "i 0 0 0  @x",
		"i 00 0 0 @x", "i 0 00 0 @x", "i 0 0 00 @x", "i 0 01 0 @x", "i 0 0 01 @x", "i x 0 0 @x", "i 0 x 0 @x", "i 0 0 x @x", "i 0 0 -1 @x", "i 0 -1 1 @x", "i -1 0 0 @x",
	} {
		wantPatchError(t, "void f(){}", line+"\n", api.ErrScript, 1)
		wantPatchError(t, "void f(){}", "r 3 '\\x20g\n"+line+"\nd 0\n", api.ErrScript, 2)
	}
}

func TestStepsThatCannotBeCarriedOut(t *testing.T) {
	for _, line := range []string{
		"d 0", "d 10", "d 11", "d 999999", "r 0 @x", "r 0 @program", "r 0 'x", "r 10 @x", "r 10 'x", "r 999999 'x",
		"r 1 'x", "r 6 '{", "r 6 '",
		"i 10 0 0 @x", "i 10 0 0 'x", "i 999999 0 0 @x", "i 2 0 0 @x", "i 3 0 0 'x", "i 9 0 0 @x", "i 9 0 0 'x",
		"i 0 3 0 @x", "i 0 3 0 'x", "i 0 999999 0 @x", "i 0 0 3 @x", "i 0 1 2 @x", "i 0 2 1 @x", "i 0 0 999999 @x", "i 0 999999 999999 @x",
		"i 6 3 0 'x", "i 6 0 3 @x", "i 6 2 1 @x", "i 1 6 0 'x", "i 1 5 1 @x",
		"i 0 0 1 'x", "i 0 0 2 '", "i 6 1 1 'x",
	} {
		wantPatchError(t, "void f(){}", line+"\n", api.ErrScript, 1)
		wantPatchError(t, "void f(){}", "r 3 '\\x20g\nr 3 '\\x20h\n"+line+"\nx\n", api.ErrScript, 3)
	}
}

// Each of the steps is the last that the tree allows, and is told by the line
// behind it, which is none.
func TestStepsAtTheEdge(t *testing.T) {
	for _, line := range []string{
		"d 1", "d 9", "r 1 @", "r 9 @x", "r 9 '", "r 9 'x", "r 6 @x",
		"i 0 2 0 'x", "i 0 2 0 @x", "i 0 0 2 @x", "i 0 1 1 @x", "i 6 2 0 'x", "i 6 0 2 @x", "i 6 1 1 @x", "i 1 5 0 'x", "i 1 4 1 @x", "i 1 0 5 @x",
	} {
		wantPatchError(t, "void f(){}", line+"\nx\n", api.ErrScript, 2)
		wantPatchError(t, "void f(){}", line+"\n"+line, api.ErrScript, 2)
	}
}

// A step is carried out on what the one ahead has made, not on a's tree.
func TestStepsFollowEachOther(t *testing.T) {
	wantPatchError(t, "", "d 1\nd 1\n", api.ErrScript, 2)
	wantPatchError(t, "", "d 1\ni 0 0 0 @x\ni 0 1 0 @y\ni 0 0 2 'z\n", api.ErrScript, 4)
	wantPatchError(t, "void f(){}", "d 9\nd 9\n", api.ErrScript, 2)
	wantPatchError(t, "void f(){}", "r 9 @x\ni 9 0 0 'y\nr 9 'z\n", api.ErrScript, 3)
	wantPatchError(t, "void f(){}", "d 8\nd 7\nr 6 'x\ni 6 0 0 'y\n", api.ErrScript, 4)
	wantPatchError(t, "void f(){}", "i 6 1 0 'x\ni 6 3 0 'y\ni 6 5 0 'z\n", api.ErrScript, 3)
	wantPatchError(t, "void f(){}", "d 6\ni 1 6 0 'x\ni 1 8 0 'y\n", api.ErrScript, 3)
}

// Every byte within a leaf's label: as itself and as two digits, just one of
// which is right; and as digits of other forms, none of which is. A line feed
// as itself ends a right step, so that the line behind it is the wrong one.
func TestLabelsOfLeaves(t *testing.T) {
	const lower, upper = "0123456789abcdef", "0123456789ABCDEF"
	for c := 0; c < 256; c++ {
		raw := string([]byte{byte(c)})
		coded := `\x` + string(lower[c/16]) + string(lower[c%16])
		right, wrong := raw, coded
		if c < 33 || c > 126 || c == '\\' || c == '(' || c == ')' {
			right, wrong = coded, raw
		}
		wantPatch(t, "", "r 1 '/*"+right+"*/\n", "/*"+raw+"*/")
		line := 1
		if wrong == "\n" {
			line = 2
		}
		wantPatchError(t, "", "r 1 '/*"+wrong+"*/\n", api.ErrScript, line)
		shouted := `\x` + string(upper[c/16]) + string(upper[c%16])
		if shouted != coded {
			wantPatchError(t, "", "r 1 '/*"+shouted+"*/\n", api.ErrScript, 1)
		}
	}
	for _, label := range []string{`\`, `\x`, `\x2`, `\\`, `\n`, `\20`, `\X20`, `\x2G`, `\xg0`, `\x 0`, `\x2(`, `/*\x2*/`, `\u0020`, `\040`, `a\x20\x2`, `()`, ` `, "\t"} {
		wantPatchError(t, "", "r 1 '"+label+"\n", api.ErrScript, 1)
		wantPatchError(t, "", "i 0 0 0 '"+label+"\nd 1\n", api.ErrScript, 1)
	}
}

// Every byte within an inner node's label: all but the blank and the line
// feed, since these part words and lines.
func TestLabelsOfInnerNodes(t *testing.T) {
	for c := 0; c < 256; c++ {
		d := "i 0 0 1 @" + string([]byte{byte(c)}) + "\nd 1\n"
		switch c {
		case ' ':
			wantPatchError(t, "void f(){}", d, api.ErrScript, 1)
		case '\n':
			wantPatchError(t, "void f(){}", d, api.ErrScript, 2)
		default:
			wantPatch(t, "void f(){}", d, "void f(){}")
		}
	}
}

func TestLastLineNotEnded(t *testing.T) {
	wantPatchError(t, "void f(){}", "r 3 'g", api.ErrScript, 1)
	wantPatchError(t, "void f(){}", "d 9", api.ErrScript, 1)
	wantPatchError(t, "void f(){}", "x", api.ErrScript, 1)
	wantPatchError(t, "void f(){}", "r 3 '\\x20g\nr 3 '\\x20h", api.ErrScript, 2)
	wantPatchError(t, "void f(){}", "r 3 '\\x20g\n ", api.ErrScript, 2)
	wantPatch(t, "void f(){}", "r 3 '\\x20g\n", "void g(){}")
}

func TestPatchesThatMakeNoProgram(t *testing.T) {
	for _, c := range []struct{ a, d string }{
		{"void f(){;}", "d 8\n"},
		{"void f(){;}", "r 8 @return\n"},
		{"", "d 1\n"},
		{"", "i 0 0 0 '\n"},
		{"", "i 0 0 0 @\n"},
		{"", "r 1 @\n"},
		{"", "r 1 @end\n"},
		{"", "i 0 0 1 @program\n"},
		{"", "r 1 'x\n"},
		// A right text in leaves other than its tokens.
		{"void f(){}", "r 8 '}}\n"},
		{"void f(){}", "r 9 '\\x20//x\ni 0 1 0 '\n"},
		{"void f(){}", "d 8\nr 7 '{}\n"},
		{"void f(){}", "r 2 'void\\x20\nr 3 'f\n"},
		{"void f(){a;}", "r 10 'b;\nr 9 'a\n"},
		{"void f(){}", "i 0 1 0 @empty\n"},
		// A right text in a tree other than its own.
		{"void f(){}", "d 6\n"},
		{"void f(){}", "d 1\n"},
		{"void f(){}", "r 6 @blocks\n"},
		{"void f(){}", "r 6 @\n"},
		{"void f(){}", "r 6 @block\r\n"},
		{"void f(){}", "r 1 @block\n"},
		{"void f(){}", "i 6 1 0 @block\n"},
		{"void f(){;}", "d 9\ni 6 2 0 ';\n"},
		{"void f(){a+b+c;}", "i 9 0 3 @sum\n"},
		{"void f(){if(a)if(b);else;}", "d 22\nd 21\nd 20\ni 8 5 0 'else\ni 8 6 0 @empty\ni 21 0 0 ';\n"},
		{"void f(){a;}", "r 9 '1a\n"},
	} {
		wantPatchError(t, c.a, c.d, api.ErrProgram, 0)
	}
}

// What comes of a script is no program if it passes a bound, though each
// step can be carried out.
func TestBoundsOfWhatIsMade(t *testing.T) {
	comment := "//" + strings.Repeat("x", api.MaxText-12)
	wantPatch(t, "void f(){}", "r 9 '"+comment+"\n", "void f(){}"+comment)
	wantPatchError(t, "void f(){}", "r 9 '"+comment+"x\n", api.ErrProgram, 0)

	deep := api.MaxDepth - 3
	wantPatch(t, "void f(){a;}", negated(deep), "void f(){"+strings.Repeat("-", deep)+"a;}")
	wantPatchError(t, "void f(){a;}", negated(deep+1), api.ErrProgram, 0)

	empty := "i 6 1 0 @empty\ni 8 0 0 ';\n"
	wantPatch(t, "void f(){}", strings.Repeat(empty, 35), "void f(){"+strings.Repeat(";", 35)+"}")
	wantPatchError(t, "void f(){}", strings.Repeat(empty, 36), api.ErrProgram, 0)
	wantPatch(t, "void f(){}", strings.Repeat(empty, 250)+strings.Repeat("d 9\nd 8\n", 250), "void f(){}")
}

// Wraps node 9, the a of `void f(){a;}`, so many times.
func negated(count int) string {
	return strings.Repeat("i 8 0 1 @neg\ni 9 0 0 '-\n", count)
}

func TestMaxScript(t *testing.T) {
	same := strings.Repeat("r 1 @function\n", 600)
	last := "r 9 '//" + strings.Repeat("x", api.MaxScript-len(same)-8) + "\n"
	rest := api.MaxScript - len(same)
	wantPatchError(t, "void f(){}", same+last, api.ErrProgram, 0)
	wantPatchError(t, "void f(){}", same+last+"\n", api.ErrLong, 0)
	fits := same + strings.Repeat("r 9 '\n", rest/6)
	wantPatch(t, "void f(){}", fits, "void f(){}")
	wantPatchError(t, "void f(){}", fits+"r 9 '\n", api.ErrLong, 0)
	wantPatchError(t, "void f(){}", strings.Repeat("x\n", api.MaxScript/2), api.ErrScript, 1)
	wantPatchError(t, "void f(){}", strings.Repeat("\n", api.MaxScript+1), api.ErrLong, 0)
	if len(fits) != api.MaxScript {
		t.Errorf("the script has %d bytes", len(fits))
	}
}

// The error of a is told first, and without its place; then the script's
// length, then its lines, then what it makes.
func TestPatchErrorNamedFirst(t *testing.T) {
	long := strings.Repeat("x", api.MaxScript+1)
	deep := "void f(){" + strings.Repeat("{", 30) + strings.Repeat("}", 30) + "}"
	big := "void f(){" + strings.Repeat(";", 90) + "}"
	for _, d := range []string{"", "d 1\n", "x", "x\n", long} {
		wantPatchError(t, strings.Repeat(" ", api.MaxText+1), d, api.ErrLong, 0)
		wantPatchError(t, "void f({}", d, api.ErrSyntax, 0)
		wantPatchError(t, "void f(){}  @", d, api.ErrSyntax, 0)
		wantPatchError(t, deep, d, api.ErrDeep, 0)
		wantPatchError(t, big, d, api.ErrBig, 0)
	}
	wantPatchError(t, "", "d 1\n"+long, api.ErrLong, 0)
	wantPatchError(t, "", "d 1\nx\n", api.ErrScript, 2)
	wantPatchError(t, "", "d 1\n", api.ErrProgram, 0)
}
