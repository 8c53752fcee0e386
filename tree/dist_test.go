package tree

import (
	"strings"
	"testing"

	"treediff/api"
)

// Each step has an opposite, so the way back is as long as the way there.
func wantDist(t *testing.T, a string, b string, steps int) {
	t.Helper()
	there, err := Dist(a, b)
	if there != steps || err != api.OK {
		t.Errorf("Dist(%q, %q) = %d, %d, want %d", a, b, there, err, steps)
	}
	back, err := Dist(b, a)
	if back != steps || err != api.OK {
		t.Errorf("Dist(%q, %q) = %d, %d, want %d", b, a, back, err, steps)
	}
}

func wantDistError(t *testing.T, a string, b string, err api.Errno) {
	t.Helper()
	got, gotErr := Dist(a, b)
	if got != 0 || gotErr != err {
		t.Errorf("Dist(%.60q, %.60q) = %d, %d, want error %d", a, b, got, gotErr, err)
	}
}

// Two programs, and the fewest steps between them.
type stepsBetween struct {
	a, b  string
	steps int
}

func programsApart() []stepsBetween {
	return []stepsBetween{
		{"", "", 0},
		{"", " ", 1},
		{" ", "\t", 1},
		{"// a", "/* a */", 1},
		{"void f(){}", "void f(){}", 0},
		{"void f(){}", "void g(){}", 1},
		{"void f(){}", "int g(){}", 2},
		{"void f(){}", "void f( ){}", 1},
		{"void f(){}", "void f(){}\n", 1},
		{"", "void f(){}", 8},
		{" ", "void f(){}", 9},
		{"", "void f(){}void f(){}", 16},
		{"void f(){}void g(){}", "void f(){}", 8},
		{"void f(){}void g(){}", "void g(){}", 8},
		{"void f(){}void g(){}", "void g(){}void f(){}", 2},
		{"void f(){}", "void f(int a){}", 3},
		{"void f(int a){}", "void f(int a,int b){}", 4},
		{"void f(int a,char b){}", "void f(char b,int a){}", 4},
	}
}

func statementsApart() []stepsBetween {
	list := []stepsBetween{
		{";", "", 2},
		{";", ";;", 2},
		{"a;", "(a);", 3},
		{"a;", "a ;", 1},
		{"a;", "-a;", 2},
		{"a;", "--a;", 4},
		{"a;", ";", 2},
		{"a;", "f();", 4},
		{"f();", "f(a);", 1},
		{"f(a);", "f(a,b);", 2},
		{"a+b;", "a+b+c;", 2},
		{"a+b;", "b+a;", 2},
		{"a+b;", "a-b;", 1},
		{"a+b;", "a*b;", 2},
		{"a*b+c;", "a*(b+c);", 6},
		{"x=1;", "if(y)x=1;", 5},
		{"x=1;", "int x=1;", 4},
		{"if(a)b;", "while(a)b;", 2},
		{"if(a)b;", "if(a)b;else c;", 4},
		{"if(a)b;", "if(a){b;}", 3},
		{"return;", "return a;", 1},
		{"return;", ";", 2},
		{"a;b;", "b;a;", 2},
		{"a;b;c;", "c;", 6},
		{"a;", "{a;}", 3},
		{"{{{a;}}}", "a;", 9},
		{"int a;", "a;", 3},
		{"if(a)if(b);else;", "if(a){if(b);}else;", 5},
		{"(b);", "a;", 4},
		{"neg;", "-a;", 3},
		{"group;", "(a);", 4},
		{"x=a;", "x=b(c);", 5},
		{"f(a,b,c);", "f(a,g(),c);", 4},
		{"f(a,b,c);", "f(a,-1,c);", 3},
	}
	for k, c := range list {
		list[k].a, _ = within(c.a, "")
		list[k].b, _ = within(c.b, "")
	}
	return list
}

// Programs that just keep within the bounds.
func boundsApart() []stepsBetween {
	const function = "void f(){}"
	deep := "void f(){" + strings.Repeat("{", 18) + strings.Repeat("}", 18) + "}"
	big := "void f(){" + strings.Repeat(";", 35) + "}"
	long := strings.Repeat(" ", api.MaxText)
	return []stepsBetween{
		{function, deep, 18 * 3},
		{function, big, 35 * 2},
		{"", big, 8 + 35*2},
		{"", long, 1},
		{function, function + long[len(function):], 1},
		{big, big + "\n", 1},
		{big, strings.Replace(big, ";", " ;", -1), 35},
		{deep, strings.Replace(deep, "{", " {", -1), 19},
		{deep, strings.Replace(deep, "{", "{;", 1), 2},
	}
}

func TestDist(t *testing.T) {
	for _, c := range programsApart() {
		wantDist(t, c.a, c.b, c.steps)
	}
	for _, c := range statementsApart() {
		wantDist(t, c.a, c.b, c.steps)
	}
	for _, c := range boundsApart() {
		wantDist(t, c.a, c.b, c.steps)
	}
}

// Two texts, one of them at least no program, and the error that is told.
type wrongPair struct {
	a, b string
	err  api.Errno
}

func wrongPairs() []wrongPair {
	deep := "void f(){" + strings.Repeat("{", 19) + strings.Repeat("}", 19) + "}"
	big := "void f(){" + strings.Repeat(";", 36) + "}"
	long := strings.Repeat(" ", api.MaxText+1)
	wrong := []struct {
		text string
		err  api.Errno
	}{{long, api.ErrLong}, {"x", api.ErrSyntax}, {deep, api.ErrDeep}, {big, api.ErrBig}}
	var list []wrongPair
	for _, w := range wrong {
		list = append(list, wrongPair{w.text, "", w.err}, wrongPair{"", w.text, w.err})
		list = append(list, wrongPair{"void f(){}", w.text, w.err})
		for _, other := range wrong {
			list = append(list, wrongPair{w.text, other.text, w.err})
		}
	}
	return list
}

func TestDistErrors(t *testing.T) {
	for _, w := range wrongPairs() {
		wantDistError(t, w.a, w.b, w.err)
	}
}
