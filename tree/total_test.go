package tree

import (
	"strings"
	"testing"

	"treediff/api"
)

const sample = "int f(int a, char b){ if(a<b&&!g(a,b)) return -a*2; else while(a) { a = b = 1; } ; char c = (a); } // end"

// P1: what Show answers has one of the forms that P2 and P3 tell, and is the
// same whenever it is asked.
func wantForm(t *testing.T, text string) {
	t.Helper()
	tree, err, place := Show(text)
	again, errAgain, placeAgain := Show(text)
	if tree != again || err != errAgain || place != placeAgain {
		t.Errorf("Show(%q) answers two things", text)
	}
	switch err {
	case api.OK:
		if !strings.HasPrefix(tree, "(@program ") || place != 0 {
			t.Errorf("Show(%q) = %q, OK, %d", text, tree, place)
		}
	case api.ErrSyntax:
		if tree != "" || place < 0 || place > len(text) {
			t.Errorf("Show(%q) = %q, ErrSyntax, %d", text, tree, place)
		}
	case api.ErrLong, api.ErrDeep, api.ErrBig:
		if tree != "" || place != 0 {
			t.Errorf("Show(%q) = %q, %d, %d", text, tree, err, place)
		}
	default:
		t.Errorf("Show(%q) answers the error %d", text, err)
	}
}

func TestShowOfAnyText(t *testing.T) {
	for at := 0; at <= len(sample); at++ {
		wantForm(t, sample[:at])
		wantForm(t, sample[at:])
		for c := 0; c < 256; c++ {
			wantForm(t, sample[:at]+string([]byte{byte(c)})+sample[at:])
		}
	}
	for first := 0; first < 256; first++ {
		for second := 0; second < 256; second++ {
			wantForm(t, string([]byte{byte(first), byte(second)}))
		}
	}
}

func TestShowOfRepeatedPieces(t *testing.T) {
	pieces := []string{"(", ")", "{", "}", "-", "!", "a", "a=", "a+", "a(", "if(a)", "if(a);else ", "while(a)", "return ", "/*", "//", "/", "*", "\n", "int f(){", "int f(){}", "\x00", "\xff"}
	for _, head := range []string{"", "int f(", "int f(){", "int f(){a="} {
		for _, piece := range pieces {
			for _, count := range []int{1, 2, 17, 80, 600, 100000} {
				wantForm(t, head+strings.Repeat(piece, count))
			}
		}
	}
}

// P1 holds for the other calls too: each ends, at all strings.
func TestOtherCallsEnd(t *testing.T) {
	for _, text := range []string{"", sample, "@", "\x00", strings.Repeat("(", 100000)} {
		Dist(text, sample)
		Dist(sample, text)
		Diff(text, sample)
		Diff(sample, text)
		Patch(text, "d 1\n")
		Patch(sample, text)
	}
}
