// Package lexer cuts the text of a statement into tokens.
package lexer

import (
	"strconv"
	"strings"

	"rowmill/api"
)

// Token is a piece of a statement. N is the worth of a number, S what a name or a text stands for.
type Token struct {
	Kind Kind
	N    int
	S    string
}

// Cut gives the tokens of a text; false, if it is not made of tokens.
func Cut(text string) ([]Token, bool) {
	var tokens []Token
	for rest := skipBlanks(text); rest != ""; rest = skipBlanks(rest) {
		token, length := first(rest)
		if length == 0 {
			return nil, false
		}
		tokens = append(tokens, token)
		rest = rest[length:]
	}
	return tokens, true
}

func skipBlanks(text string) string {
	return strings.TrimLeft(text, " \t\n")
}

// first gives the token at the start of a text that is not empty, and its length: 0, if there is none.
func first(text string) (Token, int) {
	switch c := text[0]; {
	case isLetter(c):
		return word(text)
	case isDigit(c):
		return number(text)
	case c == '\'':
		return quoted(text)
	}
	return sign(text)
}

func isLetter(c byte) bool {
	return 'a' <= c && c <= 'z' || 'A' <= c && c <= 'Z' || c == '_'
}

func isDigit(c byte) bool {
	return '0' <= c && c <= '9'
}

func isLetterOrDigit(c byte) bool {
	return isLetter(c) || isDigit(c)
}

// span tells how many of the first bytes of a text belong together.
func span(text string, belongs func(byte) bool) int {
	length := 0
	for length < len(text) && belongs(text[length]) {
		length++
	}
	return length
}

func word(text string) (Token, int) {
	length := span(text, isLetterOrDigit)
	written := text[:length]
	if key := keyword(strings.ToUpper(written)); key != End {
		return Token{Kind: key}, length
	}
	if length > api.MaxName {
		return Token{}, 0
	}
	// A copy, since a name may live on in a table, and the statement's text must not be kept with it.
	return Token{Kind: Name, S: strings.Clone(written)}, length
}

func keyword(capitals string) Kind {
	for key := firstKeyword; key <= lastKeyword; key++ {
		if spellings[key] == capitals {
			return key
		}
	}
	return End
}

func number(text string) (Token, int) {
	length := span(text, isDigit)
	n, err := strconv.Atoi(text[:length])
	if err != nil {
		return Token{}, 0
	}
	return Token{Kind: Number, N: n}, length
}

func quoted(text string) (Token, int) {
	var content []byte
	for at := 1; at < len(text); at++ {
		if text[at] == '\'' {
			if !strings.HasPrefix(text[at:], "''") {
				return closed(content, at+1)
			}
			at++
		}
		content = append(content, text[at])
	}
	return Token{}, 0
}

func closed(content []byte, length int) (Token, int) {
	if len(content) > api.MaxString {
		return Token{}, 0
	}
	return Token{Kind: Text, S: string(content)}, length
}

func sign(text string) (Token, int) {
	for kind := firstSign; kind <= lastSign; kind++ {
		if strings.HasPrefix(text, spellings[kind]) {
			return Token{Kind: kind}, len(spellings[kind])
		}
	}
	return Token{}, 0
}
