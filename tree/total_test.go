package tree

import (
	"strings"
	"testing"

	"treediff/api"
)

const sample = "int f(int a, char b){ if(a<b&&!g(a,b)) return -a*2; else while(a) { a = b = 1; } ; char c = (a); } // end"

// P1: what Show answers has one of the forms that P2 and P3 tell, and is the
// same whenever it is asked.
func wantForm(t *testing.T, text string) {
	t.Helper()
	tree, err, place := Show(text)
	again, errAgain, placeAgain := Show(text)
	if tree != again || err != errAgain || place != placeAgain {
		t.Errorf("Show(%q) answers two things", text)
	}
	switch err {
	case api.OK:
		if !strings.HasPrefix(tree, "(@program ") || place != 0 {
			t.Errorf("Show(%q) = %q, OK, %d", text, tree, place)
		}
	case api.ErrSyntax:
		if tree != "" || place < 0 || place > len(text) {
			t.Errorf("Show(%q) = %q, ErrSyntax, %d", text, tree, place)
		}
	case api.ErrLong, api.ErrDeep, api.ErrBig:
		if tree != "" || place != 0 {
			t.Errorf("Show(%q) = %q, %d, %d", text, tree, err, place)
		}
	default:
		t.Errorf("Show(%q) answers the error %d", text, err)
	}
}

func TestShowOfAnyText(t *testing.T) {
	for at := 0; at <= len(sample); at++ {
		wantForm(t, sample[:at])
		wantForm(t, sample[at:])
		for c := 0; c < 256; c++ {
			wantForm(t, sample[:at]+string([]byte{byte(c)})+sample[at:])
		}
	}
	for first := 0; first < 256; first++ {
		for second := 0; second < 256; second++ {
			wantForm(t, string([]byte{byte(first), byte(second)}))
		}
	}
}

func TestShowOfRepeatedPieces(t *testing.T) {
	pieces := []string{"(", ")", "{", "}", "-", "!", "a", "a=", "a+", "a(", "if(a)", "if(a);else ", "while(a)", "return ", "/*", "//", "/", "*", "\n", "int f(){", "int f(){}", "\x00", "\xff"}
	for _, head := range []string{"", "int f(", "int f(){", "int f(){a="} {
		for _, piece := range pieces {
			for _, count := range []int{1, 2, 17, 80, 600, 100000} {
				wantForm(t, head+strings.Repeat(piece, count))
			}
		}
	}
}

// P1: what Patch answers has one of the forms that P4 tells, and is the same
// whenever it is asked.
func wantPatchForm(t *testing.T, a string, d string) {
	t.Helper()
	text, err, line := Patch(a, d)
	again, errAgain, lineAgain := Patch(a, d)
	if text != again || err != errAgain || line != lineAgain {
		t.Errorf("Patch(%.60q, %.200q) answers two things", a, d)
	}
	switch err {
	case api.OK:
		_, errShow, _ := Show(text)
		if errShow != api.OK || line != 0 {
			t.Errorf("Patch(%.60q, %.200q) = %q, OK, %d", a, d, text, line)
		}
	case api.ErrScript:
		if text != "" || line < 1 || line > strings.Count(d, "\n")+1 {
			t.Errorf("Patch(%.60q, %.200q) = %q, ErrScript, %d", a, d, text, line)
		}
	case api.ErrLong, api.ErrSyntax, api.ErrDeep, api.ErrBig, api.ErrProgram:
		if text != "" || line != 0 {
			t.Errorf("Patch(%.60q, %.200q) = %q, %d, %d", a, d, text, err, line)
		}
	default:
		t.Errorf("Patch(%.60q, %.200q) answers the error %d", a, d, err)
	}
}

func TestPatchOfAnyStrings(t *testing.T) {
	script := "i 8 0 1 @group\ni 9 0 0 '\\x28\ni 9 2 0 '\\x29\nr 3 '\\x20g\nd 15\ni 0 1 0 '\n"
	for at := 0; at <= len(script); at++ {
		wantPatchForm(t, "void f(){a;}", script[:at])
		wantPatchForm(t, "void f(){a;}", script[at:])
		for c := 0; c < 256; c++ {
			wantPatchForm(t, "void f(){a;}", script[:at]+string([]byte{byte(c)})+script[at:])
		}
	}
	wantPatch(t, "void f(){a;}", script, "void g(){(a);}")
}

func TestPatchOfRepeatedPieces(t *testing.T) {
	pieces := []string{"\n", " ", "x", "0", "'", "@", "\\x", "\x00", "\xff", "d 1\n", "d 2\n", "r 1 @\n", "r 1 '\n", "r 1 'x\n", "i 0 0 0 @\n", "i 0 0 1 @\n", "i 1 0 0 @\n", "i 0 0 0 '\n", "i 0 1 0 'x\n"}
	for _, a := range []string{"", "void f(){}", sample, "@", strings.Repeat("(", 100000)} {
		for _, head := range []string{"", "d ", "r 1 ", "r 1 @", "r 1 '", "i 0 0 0 @\n", "i 0 0 "} {
			for _, piece := range pieces {
				for _, count := range []int{1, 2, 17, 80, 800, 1500, 9000, 100000} {
					wantPatchForm(t, a, head+strings.Repeat(piece, count))
					wantPatchForm(t, a, head+strings.Repeat(piece, count)+"\n")
				}
			}
		}
	}
}

// P1: what Dist answers has one of the forms that P5 tells, and is the same
// whenever it is asked.
func wantDistForm(t *testing.T, a string, b string) {
	t.Helper()
	steps, err := Dist(a, b)
	again, errAgain := Dist(a, b)
	if steps != again || err != errAgain {
		t.Errorf("Dist(%.60q, %.60q) answers two things", a, b)
	}
	from, want, _ := Show(a)
	to, errShow, _ := Show(b)
	if want == api.OK {
		want = errShow
	}
	if want != api.OK {
		wantDistError(t, a, b, want)
		return
	}
	fromNodes, toNodes := strings.Count(from, " "), strings.Count(to, " ")
	if err != api.OK || steps < max(fromNodes-toNodes, toNodes-fromNodes) || steps > fromNodes+toNodes {
		t.Errorf("Dist(%.60q, %.60q) = %d, %d", a, b, steps, err)
	}
}

// P1: what Diff answers has one of the forms that P6 tells, and is the same
// whenever it is asked.
func wantDiffForm(t *testing.T, a string, b string) {
	t.Helper()
	script, err := Diff(a, b)
	again, errAgain := Diff(a, b)
	if script != again || err != errAgain {
		t.Errorf("Diff(%.60q, %.60q) answers two things", a, b)
	}
	steps, want := Dist(a, b)
	if want != api.OK {
		wantDiffError(t, a, b, want)
		return
	}
	wantDiff(t, a, b, steps)
}

func TestDistAndDiffOfAnyStrings(t *testing.T) {
	program := "void f(){a;}"
	for at := 0; at <= len(program); at++ {
		wantDistForm(t, program[:at], program[at:])
		wantDiffForm(t, program[:at], program[at:])
		for c := 0; c < 256; c++ {
			spoiled := program[:at] + string([]byte{byte(c)}) + program[at:]
			wantDistForm(t, program, spoiled)
			wantDistForm(t, spoiled, program)
			wantDiffForm(t, program, spoiled)
			wantDiffForm(t, spoiled, program)
		}
	}
}

func TestDistAndDiffOfRepeatedPieces(t *testing.T) {
	for _, piece := range []string{"(", "{", ";", "{;}", "-a;", "a+b;", "/*", "//", "\n", "int f(){}", "\x00", "\xff"} {
		for _, count := range []int{1, 2, 8, 17, 80, 600, 100000} {
			text := strings.Repeat(piece, count)
			for _, a := range []string{text, "void f(){" + text + "}"} {
				wantDistForm(t, a, a)
				wantDiffForm(t, a, a)
				for _, b := range []string{"", "@", sample, strings.Repeat("(", 100000)} {
					wantDistForm(t, a, b)
					wantDistForm(t, b, a)
					wantDiffForm(t, a, b)
					wantDiffForm(t, b, a)
				}
			}
		}
	}
}
