package il

import (
	"slices"

	"rung/api"
)

// reader: a text, its tokens from the next one to read on, the last of them the
// end, and the first error: behind that nothing is left to read but the end.
type reader struct {
	text   string
	tokens []api.Token
	err    error
}

// now is the next token.
func (r *reader) now() api.Token { return r.tokens[0] }

// take goes past the next token; the end stays.
func (r *reader) take() api.Token {
	t := r.now()
	if t.Tok != api.TokEnd {
		r.tokens = r.tokens[1:]
	}
	return t
}

// is tells whether the next token is one of those words, names or signs: no two
// kinds of tokens are spelt alike, and literals have no text.
func (r *reader) is(texts ...string) bool { return slices.Contains(texts, r.now().Text) }

// accept goes past that word or sign, if it is the next token.
func (r *reader) accept(text string) bool {
	found := r.is(text)
	if found {
		r.take()
	}
	return found
}

// expect goes past that word or sign, which must be there.
func (r *reader) expect(text string) {
	if !r.accept(text) {
		r.refuse(r.now().At, api.ErrParse)
	}
}

// takeOf goes past a token of one of those kinds, which must be there.
func (r *reader) takeOf(kinds ...int) api.Token {
	if !slices.Contains(kinds, r.now().Tok) {
		r.refuse(r.now().At, api.ErrParse)
	}
	return r.take()
}

func (r *reader) passLines() {
	for r.accept(lineFeed) {
	}
}

// behindLines is the next token that isn't a line's end.
func (r *reader) behindLines() api.Token {
	ahead := *r
	ahead.passLines()
	return ahead.now()
}

// passTo goes past the next token that is that word; without one, up to the
// end.
func (r *reader) passTo(word string) {
	for r.now().Tok != api.TokEnd && !r.accept(word) {
		r.take()
	}
}

// refuse keeps an error, unless there was one, and leaves the end alone.
func (r *reader) refuse(at int, err api.Errno) {
	if r.err == nil {
		r.err = &api.PlaceError{At: at, Err: err}
	}
	r.tokens = r.tokens[len(r.tokens)-1:]
}
