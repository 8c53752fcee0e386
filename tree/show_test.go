package tree

import (
	"strings"
	"testing"

	"treediff/api"
)

// The text and the tree of a function f around the statements of its block.
func within(text string, tree string) (string, string) {
	if tree != "" {
		tree += " "
	}
	return "void f(){" + text + "}", `(@program (@function 'void '\x20f '\x28 '\x29 (@block '{ ` + tree + `'})) ')`
}

func wantTree(t *testing.T, text string, tree string) {
	t.Helper()
	got, err, place := Show(text)
	if got != tree || err != api.OK || place != 0 {
		t.Errorf("Show(%q) = %q, %d, %d, want %q", text, got, err, place, tree)
	}
}

func wantError(t *testing.T, text string, err api.Errno, place int) {
	t.Helper()
	got, gotErr, gotPlace := Show(text)
	if got != "" || gotErr != err || gotPlace != place {
		t.Errorf("Show(%.60q) = %.60q, %d, %d, want error %d at %d", text, got, gotErr, gotPlace, err, place)
	}
}

func wantOK(t *testing.T, text string) {
	t.Helper()
	got, err, place := Show(text)
	if got == "" || err != api.OK || place != 0 {
		t.Errorf("Show(%.60q) = %.60q, %d, %d, want a tree", text, got, err, place)
	}
}

func TestShowOfPrograms(t *testing.T) {
	for _, c := range []struct{ text, tree string }{
		{"", "(@program ')"},
		{" \t\r\n", `(@program '\x20\x09\x0d\x0a)`},
		{"//", "(@program '//)"},
		{"/**/", "(@program '/**/)"},
		{"void f(){}", `(@program (@function 'void '\x20f '\x28 '\x29 (@block '{ '})) ')`},
		{"int f(int a, char b){;}\n", `(@program (@function 'int '\x20f '\x28 (@param 'int '\x20a) ', (@param '\x20char '\x20b) '\x29 (@block '{ (@empty ';) '})) '\x0a)`},
		{"void f(){}char g(){}", `(@program (@function 'void '\x20f '\x28 '\x29 (@block '{ '})) (@function 'char '\x20g '\x28 '\x29 (@block '{ '})) ')`},
		{"void/*a*/f //b\n(){}", `(@program (@function 'void '/*a*/f '\x20//b\x0a\x28 '\x29 (@block '{ '})) ')`},
	} {
		wantTree(t, c.text, c.tree)
	}
}

func TestShowOfStatements(t *testing.T) {
	for _, c := range []struct{ text, tree string }{
		{"{}", `(@block '{ '})`},
		{"{;}", `(@block '{ (@empty ';) '})`},
		{";;", `(@empty ';) (@empty ';)`},
		{"if(a)b;", `(@if 'if '\x28 'a '\x29 (@expr 'b ';))`},
		{"if(a=1);else;", `(@if 'if '\x28 (@set 'a '= '1) '\x29 (@empty ';) 'else (@empty ';))`},
		{"if(a)if(b);else;", `(@if 'if '\x28 'a '\x29 (@if 'if '\x28 'b '\x29 (@empty ';) 'else (@empty ';)))`},
		{"if(a)while(b)if(c);else;else;", `(@if 'if '\x28 'a '\x29 (@while 'while '\x28 'b '\x29 (@if 'if '\x28 'c '\x29 (@empty ';) 'else (@empty ';))) 'else (@empty ';))`},
		{"if(a){if(b);}else;", `(@if 'if '\x28 'a '\x29 (@block '{ (@if 'if '\x28 'b '\x29 (@empty ';)) '}) 'else (@empty ';))`},
		{"while(1){}", `(@while 'while '\x28 '1 '\x29 (@block '{ '}))`},
		{"return;return 0;", `(@return 'return ';) (@return 'return '\x200 ';)`},
		{"return a=b;", `(@return 'return (@set '\x20a '= 'b) ';)`},
		{"int a;char b=1;void c=d=2;", `(@local 'int '\x20a ';) (@local 'char '\x20b '= '1 ';) (@local 'void '\x20c '= (@set 'd '= '2) ';)`},
		{"if(a)int b;", `(@if 'if '\x28 'a '\x29 (@local 'int '\x20b ';))`},
	} {
		text, tree := within(c.text, c.tree)
		wantTree(t, text, tree)
	}
}

func TestShowOfValues(t *testing.T) {
	for _, c := range []struct{ text, tree string }{
		{"a", `'a`},
		{"007", `'007`},
		{"int1", `'int1`},
		{"_", `'_`},
		{"If", `'If`},
		{"a1_Z9", `'a1_Z9`},
		{"a=b=c+d*e-f", `(@set 'a '= (@set 'b '= (@sum 'c '+ (@prod 'd '* 'e) '- 'f)))`},
		{"a||b&&c==d||!(g<1)", `(@or 'a '|| (@and 'b '&& (@rel 'c '== 'd)) '|| (@neg '! (@group '\x28 (@rel 'g '< '1) '\x29)))`},
		{"g()", `(@call 'g '\x28 '\x29)`},
		{"h(a,(b=1),k(2))", `(@call 'h '\x28 'a ', (@group '\x28 (@set 'b '= '1) '\x29) ', (@call 'k '\x28 '2 '\x29) '\x29)`},
		{"g(a=1)", `(@call 'g '\x28 (@set 'a '= '1) '\x29)`},
		{"g()*h()", `(@prod (@call 'g '\x28 '\x29) '* (@call 'h '\x28 '\x29))`},
		{"a/b*c/d", `(@prod 'a '/ 'b '* 'c '/ 'd)`},
		{"a*b+c", `(@sum (@prod 'a '* 'b) '+ 'c)`},
		{"a--b", `(@sum 'a '- (@neg '- 'b))`},
		{"!-!a", `(@neg '! (@neg '- (@neg '! 'a)))`},
		{"-a*b", `(@prod (@neg '- 'a) '* 'b)`},
		{"a+b>c+d", `(@rel (@sum 'a '+ 'b) '> (@sum 'c '+ 'd))`},
		{"a!=b", `(@rel 'a '!= 'b)`},
		{"a!=!b", `(@rel 'a '!= (@neg '! 'b))`},
		{"a&&b||c&&d", `(@or (@and 'a '&& 'b) '|| (@and 'c '&& 'd))`},
		{"((a))", `(@group '\x28 (@group '\x28 'a '\x29) '\x29)`},
		{"a/ /**/b", `(@prod 'a '/ '\x20/**/b)`},
		{"a///*\n/b", `(@prod 'a '///*\x0a/ 'b)`},
	} {
		text, tree := within(c.text+";", "(@expr "+c.tree+" ';)")
		wantTree(t, text, tree)
	}
}

// Every byte within a comment: the label's writing of it, by DOC.md's words.
func TestShowOfBytes(t *testing.T) {
	for c := 0; c < 256; c++ {
		written := string([]byte{byte(c)})
		if c < 33 || c > 126 || c == '\\' || c == '(' || c == ')' {
			written = `\x` + string("0123456789abcdef"[c/16]) + string("0123456789abcdef"[c%16])
		}
		wantTree(t, "/*"+string([]byte{byte(c)})+"*/", "(@program '/*"+written+"*/)")
	}
}

func TestSyntaxErrors(t *testing.T) {
	for _, c := range []struct {
		text  string
		place int
	}{
		{"int f;", 5}, {"int f(int a,)", 12}, {"void f(){else;}", 9}, {"void f(){a<b<c;}", 12}, {"void f(){a+b=c;}", 12},
		{"void f(){a&b;}", 10}, {"void f(){/*}", 9}, {"void f(){//}", 12}, {"void f(){1a;}", 10},
		{"f", 0}, {" ;", 1}, {"int", 3}, {"int ", 4}, {"int //f", 7}, {"int /*f", 4}, {"int/*/", 3}, {"if f(){}", 0}, {"int if(){}", 4},
		{"int f(,){}", 6}, {"int f(int a,,){}", 12}, {"int f(int a)", 12}, {"int f();", 7}, {"int f(){}int", 12}, {"int f(){};", 9},
		{"void f(){if(){}}", 12}, {"void f(){if(a);else}", 19}, {"void f(){if(a);else;else;}", 20}, {"void f(){while a;}", 15},
		{"void f(){while(a)}", 17}, {"void f(){return}", 15}, {"void f(){return 1 2;}", 18}, {"void f(){int a,b;}", 14},
		{"void f(){int 1;}", 13}, {"void f(){int f(){}}", 14}, {"void f(){a==b!=c;}", 13}, {"void f(){a=b==c=d;}", 15},
		{"void f(){(a)=b;}", 12}, {"void f(){g()=b;}", 12}, {"void f(){!a=b;}", 11}, {"void f(){a<=b;}", 11}, {"void f(){a===b;}", 12},
		{"void f(){a!b;}", 10}, {"void f(){a&&&b;}", 12}, {"void f(){a|||b;}", 12}, {"void f(){a& &b;}", 10}, {"void f(){*a;}", 9},
		{"void f(){a*/b;}", 11}, {"void f(){a/*b;}", 10}, {"void f(){a//b;}", 15}, {"void f(){g(,);}", 11}, {"void f(){1();}", 10},
		{"void f(){(a)(b);}", 12}, {"void f(){a.b;}", 10}, {"void f(){'a';}", 9}, {"void f(){ \x00}", 10}, {"void f(){\x0b}", 9},
		{"\xef\xbb\xbf", 0}, {"void \xc3\xa4(){}", 5}, {"void f(){}  @", 12}, {"x @", 0}, {"@ x", 0}, {"void f(){a b /*", 11},
	} {
		wantError(t, c.text, api.ErrSyntax, c.place)
	}
}

func TestMaxText(t *testing.T) {
	blanks := strings.Repeat(" ", api.MaxText)
	wantOK(t, blanks)
	wantError(t, blanks+" ", api.ErrLong, 0)
	program := "void f(){}//"
	rest := strings.Repeat("\xff", api.MaxText-len(program))
	wantOK(t, program+rest)
	wantError(t, program+rest+"x", api.ErrLong, 0)
	wantError(t, blanks[1:]+"x", api.ErrSyntax, api.MaxText-1)
	wantError(t, "x"+blanks, api.ErrLong, 0)
}

// before and after lie around a; with the function, the block and what else
// holds them they make as many inner nodes as each count says.
func TestMaxDepth(t *testing.T) {
	for _, c := range []struct {
		head, before, middle, after, tail string
		around                            int
	}{
		{"", "{", "", "}", "", 2},
		{"", "(", "a", ")", ";", 3},
		{"", "!", "a", "", ";", 3},
		{"", "a=", "a", "", ";", 3},
		{"", "g(", "", ")", ";", 3},
		{"return ", "-", "1", "", ";", 3},
		{"a+", "-", "1", "", "*b;", 5},
	} {
		most := api.MaxDepth - c.around
		text, _ := within(c.head+strings.Repeat(c.before, most)+c.middle+strings.Repeat(c.after, most)+c.tail, "")
		wantOK(t, text)
		deeper, _ := within(c.head+strings.Repeat(c.before, most+1)+c.middle+strings.Repeat(c.after, most+1)+c.tail, "")
		wantError(t, deeper, api.ErrDeep, 0)
	}
}

func TestMaxNodes(t *testing.T) {
	functions := strings.Repeat("void f(){}", 8)
	for _, c := range []struct {
		text  string
		nodes int
	}{
		{"void f(){" + strings.Repeat(";", 35) + "}", 80},
		{"void f(){" + strings.Repeat(";", 34) + "a;}", 81},
		{"void f(){" + strings.Repeat(";", 36) + "}", 82},
		{"void f(){a" + strings.Repeat("+a", 33) + ";}", 80},
		{"void f(){a" + strings.Repeat("+a", 33) + ";}  // x", 80},
		{"void f(){return a" + strings.Repeat("+a", 33) + ";}", 81},
		{"void f(){g(1" + strings.Repeat(",1", 30) + ");a;}", 80},
		{"void f(){g(1" + strings.Repeat(",1", 31) + ");;}", 81},
		{functions + "void f(){;;}", 78},
		{functions + "void f(){a;;}", 79},
		{functions + "void f(){;;;}", 80},
		{functions + "void f(){a;;;}", 81},
	} {
		if c.nodes > api.MaxNodes {
			wantError(t, c.text, api.ErrBig, 0)
			continue
		}
		wantOK(t, c.text)
		got, _, _ := Show(c.text)
		if count := strings.Count(got, " ") + 1; count != c.nodes {
			t.Errorf("the tree of %q has %d nodes, want %d", c.text, count, c.nodes)
		}
	}
}

func TestErrorNamedFirst(t *testing.T) {
	deep := strings.Repeat("{", 30) + strings.Repeat("}", 30)
	big := strings.Repeat(";", 90)
	blanks := strings.Repeat(" ", api.MaxText)
	wantError(t, "void f(){"+deep+big+"@"+blanks+"}", api.ErrLong, 0)
	wantError(t, "void f(){"+deep+big+"@}", api.ErrSyntax, 9+len(deep+big))
	wantError(t, "void f(){"+deep+big+"}", api.ErrDeep, 0)
	wantError(t, "void f(){"+big+deep+"}", api.ErrDeep, 0)
	wantError(t, "void f(){"+big+"}", api.ErrBig, 0)
	wantError(t, strings.Repeat("(", api.MaxText), api.ErrSyntax, 0)
	wantError(t, "void f(){"+strings.Repeat("(", api.MaxText-9), api.ErrSyntax, api.MaxText)
}
