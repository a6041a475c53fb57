// Package words reads tokens one behind the other. It is no layer: the parsers of expressions and of queries embed its Reader.
package words

import "auspice/api"

// Fault is what a parser gives up with (by panic) where it can't go on.
type Fault struct {
	At  int
	Err api.Errno
}

// GiveUp doesn't come back: the fault is at t.
func GiveUp(t api.Token, err api.Errno) {
	panic(Fault{t.At, err})
}

// Mark is what a word or a sign says; of other tokens it is empty.
func Mark(t api.Token) string {
	if t.Kind == api.TokWord || t.Kind == api.TokSign {
		return t.Text
	}
	return ""
}

// Reader reads tokens from left to right, one ahead.
type Reader struct {
	Tokens []api.Token
	Next   int // the place of the first token that isn't read
}

// Look is the next token. A list made by hand may lack its end.
func (r *Reader) Look() api.Token {
	if r.Next >= len(r.Tokens) {
		return api.Token{}
	}
	return r.Tokens[r.Next]
}

func (r *Reader) Take() api.Token {
	t := r.Look()
	r.Next++
	return t
}

// Skip takes the next token just where it is that word or sign, and tells whether it was.
func (r *Reader) Skip(mark string) bool {
	if Mark(r.Look()) != mark {
		return false
	}
	r.Next++
	return true
}

// Need takes a token that must be that word or sign.
func (r *Reader) Need(mark string) api.Token {
	t := r.Take()
	if Mark(t) != mark {
		GiveUp(t, api.ErrSyntax)
	}
	return t
}

// NeedKind takes a token that must be of that kind.
func (r *Reader) NeedKind(kind int) api.Token {
	t := r.Take()
	if t.Kind != kind {
		GiveUp(t, api.ErrSyntax)
	}
	return t
}
