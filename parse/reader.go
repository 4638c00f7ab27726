package parse

import (
	"tautochrone/api"
	"tautochrone/lex"
	"tautochrone/word"
)

// reader goes through the tokens of a text, and stays at the last of them, End. What is wrong first stays in err: behind it
// nothing is read any more, so that whoever reads needs not ask after each token.
type reader struct {
	tokens []lex.Token
	signs  []string
	err    error
}

func newReader(tokens []lex.Token) *reader {
	return &reader{tokens: tokens, signs: word.Signs()}
}

// here is the token that is next.
func (r *reader) here() lex.Token {
	return r.tokens[0]
}

// next goes behind a token.
func (r *reader) next() {
	if len(r.tokens) > 1 {
		r.tokens = r.tokens[1:]
	}
}

// fail tells that the next token is wrong, unless something was wrong ahead of it, and leaves out the rest.
func (r *reader) fail(n api.Errno) {
	if r.err == nil {
		r.err = api.Wrap(n, r.here().At)
	}
	r.tokens = r.tokens[len(r.tokens)-1:]
}

// is tells whether a key or a sign is next: no other token has such a text.
func (r *reader) is(text string) bool {
	return r.here().Text == text
}

// take goes behind a key or a sign, if it is next.
func (r *reader) take(text string) bool {
	if !r.is(text) {
		return false
	}
	r.next()
	return true
}

// want goes behind a key or a sign that must be next.
func (r *reader) want(text string) {
	if !r.take(text) {
		r.fail(api.ErrParse)
	}
}

// name is the word that must be next.
func (r *reader) name() string {
	t := r.here()
	if t.Kind != lex.Word {
		r.fail(api.ErrParse)
		return ""
	}
	r.next()
	return t.Text
}

// number is the number that must be next, from 1 to the greatest.
func (r *reader) number(most uint64) int {
	t := r.here()
	switch {
	case t.Kind != lex.Digits:
		r.fail(api.ErrParse)
		return 0
	case t.Value < 1 || t.Value > most:
		r.fail(api.ErrLimit)
		return 0
	}
	r.next()
	return int(t.Value)
}
