package lang

import (
	"strings"

	"helm/api"
)

type tokenKind int

const (
	tokenBad tokenKind = iota // no token begins here
	tokenEnd
	tokenName
	tokenNumber
	tokenRegister
	tokenFixed // a sign, a set, or one of the words that are no names
)

const oneByteSigns = "(){},;:.+-*/%<>=!"

// A token's text tells its kind too: no two kinds have a text in common.
type token struct {
	kind tokenKind
	text string
	at   int
}

// scan finds the next token at from or behind it.
func scan(src string, from int) token {
	at := from
	for at < len(src) && (src[at] == ' ' || src[at] == '\n') {
		at++
	}
	if at == len(src) {
		return token{kind: tokenEnd, at: at}
	}
	kind, size := begin(src[at:])
	return token{kind: kind, text: src[at : at+size], at: at}
}

// begin tells the kind and the length of the token that a text begins with.
func begin(text string) (tokenKind, int) {
	first := text[0]
	switch {
	case isLetter(first):
		return beginWord(text)
	case isDigit(first):
		return beginNumber(text)
	case 'A' <= first && first <= 'Z':
		return beginCapital(text)
	}
	return beginSign(text)
}

func beginWord(text string) (tokenKind, int) {
	size := 1
	for size < len(text) && (isLetter(text[size]) || isDigit(text[size])) {
		size++
	}
	if size > api.MaxName {
		return tokenBad, 0
	}
	switch text[:size] {
	case "if", "else", "each", "in", "push", "var", "return", "true", "false", "isnone":
		return tokenFixed, size
	}
	return tokenName, size
}

func beginNumber(text string) (tokenKind, int) {
	size := 1
	for size < len(text) && isDigit(text[size]) {
		size++
	}
	if size > api.MaxDigits {
		return tokenBad, 0
	}
	return tokenNumber, size
}

func beginCapital(text string) (tokenKind, int) {
	if len(text) > 1 && text[0] == 'R' && '0' <= text[1] && text[1] <= '7' {
		return tokenRegister, 2
	}
	const size = 5 // all three words are of this length
	if len(text) < size {
		return tokenBad, 0
	}
	switch text[:size] {
	case "ROADS", "FRESH", "AGAIN":
		return tokenFixed, size
	}
	return tokenBad, 0
}

func beginSign(text string) (tokenKind, int) {
	if len(text) > 1 {
		switch text[:2] {
		case "<=", ">=", "==", "!=", "&&", "||":
			return tokenFixed, 2
		}
	}
	if strings.IndexByte(oneByteSigns, text[0]) >= 0 {
		return tokenFixed, 1
	}
	return tokenBad, 0
}

func isLetter(c byte) bool { return 'a' <= c && c <= 'z' }

func isDigit(c byte) bool { return '0' <= c && c <= '9' }
