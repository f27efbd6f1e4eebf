package syntax

import "rowmill/lexer"

// reader goes through tokens. Once something is not as it must be, it stands behind the last one for good, so that all who read end by themselves.
type reader struct {
	tokens []lexer.Token
	at     int
	depth  int
	failed bool
}

func (r *reader) fail() {
	r.failed = true
	r.at = len(r.tokens)
}

func (r *reader) peek() lexer.Kind {
	if r.at == len(r.tokens) {
		return lexer.End
	}
	return r.tokens[r.at].Kind
}

// take goes over a token, if it is of that kind.
func (r *reader) take(kind lexer.Kind) bool {
	if r.peek() != kind {
		return false
	}
	r.at++
	return true
}

// need goes over tokens that must stand here.
func (r *reader) need(kinds ...lexer.Kind) {
	for _, kind := range kinds {
		r.token(kind)
	}
}

// token gives the one that must stand here.
func (r *reader) token(kind lexer.Kind) lexer.Token {
	if !r.take(kind) {
		r.fail()
		return lexer.Token{}
	}
	return r.tokens[r.at-1]
}

func (r *reader) name() string {
	return r.token(lexer.Name).S
}

func (r *reader) number() int {
	return r.token(lexer.Number).N
}

// list reads one or more, with commas between them.
func list[T any](r *reader, one func() T) []T {
	all := []T{one()}
	for r.take(lexer.Comma) {
		all = append(all, one())
	}
	return all
}
