package tree

import (
	"strings"
	"testing"

	"treediff/api"
)

// The script is free, but for how many steps it has and what it makes of a:
// that is held against Patch and against the second way to carry scripts out.
func wantDiff(t *testing.T, a string, b string, steps int) {
	t.Helper()
	script, err := Diff(a, b)
	if err != api.OK || strings.Count(script, "\n") != steps || len(script) > api.MaxScript {
		t.Errorf("Diff(%q, %q) = %q, %d, want %d steps", a, b, script, err, steps)
	}
	if (script == "") != (a == b) {
		t.Errorf("Diff(%q, %q) = %q", a, b, script)
	}
	wantPatch(t, a, script, b)
	checkAgainstModel(t, a, script)
}

func wantDiffError(t *testing.T, a string, b string, err api.Errno) {
	t.Helper()
	script, gotErr := Diff(a, b)
	if script != "" || gotErr != err {
		t.Errorf("Diff(%.60q, %.60q) = %q, %d, want error %d", a, b, script, gotErr, err)
	}
}

func wantDiffBothWays(t *testing.T, list []stepsBetween) {
	t.Helper()
	for _, c := range list {
		wantDiff(t, c.a, c.b, c.steps)
		wantDiff(t, c.b, c.a, c.steps)
		wantDiff(t, c.a, c.a, 0)
		wantDiff(t, c.b, c.b, 0)
	}
}

func TestDiff(t *testing.T) {
	wantDiffBothWays(t, programsApart())
	wantDiffBothWays(t, statementsApart())
	wantDiffBothWays(t, boundsApart())
}

func TestDiffErrors(t *testing.T) {
	for _, w := range wrongPairs() {
		wantDiffError(t, w.a, w.b, w.err)
	}
}

// Where one step alone does it there is no choice.
func TestDiffOfOneStep(t *testing.T) {
	for _, c := range []struct{ a, b, script string }{
		{"", " ", `r 1 '\x20`},
		{"/* */", "", `r 1 '`},
		{"void f(){}", "void g(){}", `r 3 '\x20g`},
		{"void f(){}", "void f(){}//(\xff\\)", `r 9 '//\x28\xff\x5c\x29`},
		{"void f(){return;}", "void f(){return a;}", `i 8 1 0 '\x20a`},
		{"void f(){return a;}", "void f(){return;}", `d 10`},
	} {
		script, err := Diff(c.a, c.b)
		if script != c.script+"\n" || err != api.OK {
			t.Errorf("Diff(%q, %q) = %q, %d, want %q", c.a, c.b, script, err, c.script+"\n")
		}
	}
}

// Scripts for programs that have little in common, of 64 to 80 nodes and as
// many bytes as there may be, most of them bytes that take four to write.
func TestDiffOfLongScripts(t *testing.T) {
	flat := "void f(){" + strings.Repeat(";", 35) + "}"
	deep := "int g(){" + strings.Repeat("{", 13) + "a=b=c=d=1;" + strings.Repeat("}", 13) + "}"
	wide := "int g(){h(a,b,c,d,e,f,g,h,i,j,k,l,m,n,o,p,q,r,s,t,u,v,w,x,y,z,a,b,c);}"
	var list []stepsBetween
	for _, a := range []string{"", flat, deep, wide} {
		for _, b := range []string{flat, deep, wide} {
			b += "/*" + strings.Repeat("\xff", api.MaxText-len(b)-4) + "*/"
			list = append(list, stepsBetween{a, b, reckoned(t, a, b)})
		}
	}
	wantDiffBothWays(t, list)
	spaced := strings.ReplaceAll(flat, ";", strings.Repeat("\n", 15)+";")
	wantDiff(t, "", spaced, 8+35*2)
	wantDiff(t, deep, spaced, reckoned(t, deep, spaced))
	wantDiff(t, flat, spaced, 35)
}

// Trees of no programs too: there a leaf may become an inner node with other
// nodes below it, or the other way round.
func TestFewestScriptsOfSmallTrees(t *testing.T) {
	g := newStepGraph(4)
	for from := 0; from < len(g.trees); from += 29 {
		for to, steps := range g.stepsFrom(from) {
			start := modelOf(g.trees[from])
			script := fewestScript(start.nodes(0), modelOf(g.trees[to]).nodes(0))
			lines := strings.Split(script, "\n")
			for _, line := range lines[:len(lines)-1] {
				if !start.step(line) {
					t.Fatalf("from %s to %s: %q cannot be carried out", g.trees[from], g.trees[to], line)
				}
			}
			if start.written() != g.trees[to] || len(lines)-1 != steps {
				t.Fatalf("from %s to %s: %q makes %s, want %d steps", g.trees[from], g.trees[to], script, start.written(), steps)
			}
		}
	}
}

func TestLinesOfSteps(t *testing.T) {
	for _, line := range []string{"d 1", "d 79", "r 1 @", "r 10 @block", "r 7 '", `r 3 '\x20g`, `i 0 0 0 '\x28\x00\xff`, "i 12 3 45 @group", "i 0 79 0 ';"} {
		s, isStep := readStep(line)
		if !isStep || s.line() != line+"\n" {
			t.Errorf("%q is read, and written as %q", line, s.line())
		}
	}
}
