package tree

import (
	"testing"

	"treediff/api"
)

// DOC.md's grammar once more, as plain rules for a recognizer that knows
// nothing of the parser: what is no key here is a kind of token.
var rules = map[string][][]string{
	"program":    {{"end"}, {"function", "program"}},
	"function":   {{"type", "name", "(", ")", "block"}, {"type", "name", "(", "params", ")", "block"}},
	"params":     {{"param"}, {"param", ",", "params"}},
	"param":      {{"type", "name"}},
	"block":      {{"{", "}"}, {"{", "statements", "}"}},
	"statements": {{"statement"}, {"statement", "statements"}},
	"statement":  {{"block"}, {";"}, {"IF"}, {"WHILE"}, {"RETURN"}, {"local"}, {"expr"}},
	"IF":         {{"if", "(", "value", ")", "statement"}, {"if", "(", "value", ")", "statement", "else", "statement"}},
	"WHILE":      {{"while", "(", "value", ")", "statement"}},
	"RETURN":     {{"return", ";"}, {"return", "value", ";"}},
	"local":      {{"type", "name", ";"}, {"type", "name", "=", "value", ";"}},
	"expr":       {{"value", ";"}},
	"value":      {{"set"}, {"or"}},
	"set":        {{"name", "=", "value"}},
	"or":         {{"and"}, {"and", "||", "or"}},
	"and":        {{"rel"}, {"rel", "&&", "and"}},
	"rel":        {{"sum"}, {"sum", "relsign", "sum"}},
	"relsign":    {{"=="}, {"!="}, {"<"}, {">"}},
	"sum":        {{"prod"}, {"prod", "+", "sum"}, {"prod", "-", "sum"}},
	"prod":       {{"single"}, {"single", "*", "prod"}, {"single", "/", "prod"}},
	"single":     {{"neg"}, {"group"}, {"call"}, {"name"}, {"number"}},
	"neg":        {{"-", "single"}, {"!", "single"}},
	"group":      {{"(", "value", ")"}},
	"call":       {{"name", "(", ")"}, {"name", "(", "values", ")"}},
	"values":     {{"value"}, {"value", ",", "values"}},
}

// An item of Earley's recognizer: a rule, how far it has come, and the set in
// which it began.
type item struct {
	left  string
	rule  int
	dot   int
	began int
}

type itemSet []item

func (i item) wants() string {
	right := rules[i.left][i.rule]
	if i.dot == len(right) {
		return ""
	}
	return right[i.dot]
}

// No rule is empty, so a rule that is done began in an earlier set.
func closed(sets []itemSet, begun []item) itemSet {
	var set itemSet
	seen := map[item]bool{}
	todo := begun
	for len(todo) > 0 {
		i := todo[0]
		todo = todo[1:]
		if seen[i] {
			continue
		}
		seen[i] = true
		set = append(set, i)
		wanted := i.wants()
		if wanted == "" {
			for _, waiting := range sets[i.began] {
				if waiting.wants() == i.left {
					waiting.dot++
					todo = append(todo, waiting)
				}
			}
		}
		for rule := range rules[wanted] {
			todo = append(todo, item{wanted, rule, 0, len(sets)})
		}
	}
	return set
}

func firstSet() itemSet {
	return closed(nil, []item{{"program", 0, 0, 0}, {"program", 1, 0, 0}})
}

// The set behind one more token; empty, if the token cannot stand there.
func after(sets []itemSet, kind string) itemSet {
	var moved []item
	for _, i := range sets[len(sets)-1] {
		if i.wants() == kind {
			i.dot++
			moved = append(moved, i)
		}
	}
	return closed(sets, moved)
}

var spelling = map[string]string{"type": "int", "name": "a", "number": "1"}

func spelled(kind string) string {
	if text, ok := spelling[kind]; ok {
		return text
	}
	return kind
}

var kinds = []string{"type", "name", "number", "if", "else", "while", "return", "==", "!=", "&&", "||", "(", ")", "{", "}", ",", ";", "=", "<", ">", "+", "-", "*", "/", "!"}

// Tries every token behind a beginning that the grammar allows, and goes on
// behind those that can stand, more tokens deep.
func tryBehind(t *testing.T, sets []itemSet, text string, more int) {
	if len(after(sets, "end")) > 0 {
		wantOK(t, text)
	} else {
		wantError(t, text, api.ErrSyntax, len(text))
	}
	wantError(t, text+" $", api.ErrSyntax, len(text)+1)
	if more == 0 {
		return
	}
	for _, kind := range kinds {
		set := after(sets, kind)
		longer := text + " " + spelled(kind)
		if len(set) == 0 {
			wantError(t, longer+" a ) } $", api.ErrSyntax, len(text)+1)
			continue
		}
		tryBehind(t, append(sets[:len(sets):len(sets)], set), longer, more-1)
	}
}

func TestPlaceOfFirstWrongToken(t *testing.T) {
	body := []string{"type", "name", "(", ")", "{"}
	for _, c := range []struct {
		more  int
		begun []string
	}{
		{7, nil},
		{6, []string{"type", "name", "("}},
		{4, body},
		{4, append(body, "name")},
		{4, append(body, "name", "=")},
		{4, append(body, "name", "<", "name")},
		{4, append(body, "name", "(")},
		{3, append(body, "if", "(", "name", ")")},
		{4, append(body, "if", "(", "name", ")", ";")},
		{3, append(body, "if", "(", "name", ")", "if", "(", "name", ")", ";")},
		{3, append(body, "while", "(", "name", "(")},
		{4, append(body, "return", "(", "name")},
		{5, append(body, "type", "name")},
	} {
		sets := []itemSet{firstSet()}
		text := ""
		for _, kind := range c.begun {
			sets = append(sets, after(sets, kind))
			text += " " + spelled(kind)
		}
		tryBehind(t, sets, text, c.more)
	}
}
