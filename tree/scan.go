package tree

// The kinds of tokens that stand for many texts. Every other token, a sign or
// a keyword that is no type, is its own kind, so that the parser can name it
// as the grammar does.
const (
	kindType   = "type"
	kindName   = "name"
	kindNumber = "number"
	kindEnd    = "end"
	kindNone   = "none"
)

// A token's text begins behind the token before, so that the texts of all
// tokens, one behind the other, lose no byte; its place is that of the token
// itself.
type token struct {
	kind  string
	text  string
	place int
}

// The last token is the end, or the first that is none: the grammar lets
// nothing that is none stand, so what is behind it is never asked for.
func scan(s string) []token {
	var list []token
	from := 0
	place := aheadEnd(s, from)
	end := tokenEnd(s, place)
	for end > place {
		kind := kindOf(s[place:end])
		list = append(list, token{kind: kind, text: s[from:end], place: place})
		from = end
		place = aheadEnd(s, from)
		end = tokenEnd(s, place)
	}
	kind := kindEnd
	if place < len(s) {
		kind = kindNone
	}
	list = append(list, token{kind: kind, text: s[from:place], place: place})
	return list
}

// Where the blanks and comments that begin at from end.
func aheadEnd(s string, from int) int {
	at := from
	end := pieceEnd(s, at)
	for end > at {
		at = end
		end = pieceEnd(s, at)
	}
	return at
}

// Where the one blank or comment at a place ends: the place itself, if there
// is none.
func pieceEnd(s string, at int) int {
	if at >= len(s) {
		return at
	}
	if isBlank(s[at]) {
		return at + 1
	}
	if isPair(s, at, '/', '/') {
		return lineEnd(s, at)
	}
	if isPair(s, at, '/', '*') {
		return commentEnd(s, at)
	}
	return at
}

func lineEnd(s string, from int) int {
	at := from
	for at < len(s) && s[at] != '\n' {
		at++
	}
	return at
}

// A comment without its end is no comment: the place itself is answered. The
// search begins behind the opening two bytes, since `/*/` does not end itself.
func commentEnd(s string, from int) int {
	for at := from + 2; at < len(s); at++ {
		if isPair(s, at, '*', '/') {
			return at + 2
		}
	}
	return from
}

// Where the token at a place ends: the place itself, if none begins there.
func tokenEnd(s string, place int) int {
	if place >= len(s) {
		return place
	}
	if isLetter(s[place]) {
		return wordEnd(s, place)
	}
	if isDigit(s[place]) {
		return numberEnd(s, place)
	}
	return signEnd(s, place)
}

func wordEnd(s string, from int) int {
	at := from
	for at < len(s) && isWordByte(s[at]) {
		at++
	}
	return at
}

func numberEnd(s string, from int) int {
	at := from
	for at < len(s) && isDigit(s[at]) {
		at++
	}
	return at
}

// Comments that end have been passed when a token is looked for, so a `/*`
// that is met here has no end, and its `/` must not be taken for a sign.
func signEnd(s string, place int) int {
	if isPair(s, place, '/', '*') {
		return place
	}
	if isLongSign(s, place) {
		return place + 2
	}
	if isShortSign(s, place) {
		return place + 1
	}
	return place
}

func isLongSign(s string, at int) bool {
	if at+2 > len(s) {
		return false
	}
	switch s[at : at+2] {
	case "==", "!=", "&&", "||":
		return true
	}
	return false
}

func isShortSign(s string, at int) bool {
	if at >= len(s) {
		return false
	}
	switch s[at] {
	case '(', ')', '{', '}', ',', ';', '=', '<', '>', '+', '-', '*', '/', '!':
		return true
	}
	return false
}

func kindOf(text string) string {
	switch text {
	case "":
		return kindNone
	case "int", "char", "void":
		return kindType
	case "if", "else", "while", "return":
		return text
	}
	if isLetter(text[0]) {
		return kindName
	}
	if isDigit(text[0]) {
		return kindNumber
	}
	return text
}

func isPair(s string, at int, first byte, second byte) bool {
	return at+1 < len(s) && s[at] == first && s[at+1] == second
}

func isBlank(c byte) bool {
	return c == ' ' || c == '\t' || c == '\n' || c == '\r'
}

func isLetter(c byte) bool {
	return c >= 'a' && c <= 'z' || c >= 'A' && c <= 'Z' || c == '_'
}

func isDigit(c byte) bool {
	return c >= '0' && c <= '9'
}

func isWordByte(c byte) bool {
	return isLetter(c) || isDigit(c)
}
