package parse

import (
	"slices"

	"riddle/addr"
	"riddle/api"
)

// stop is what reading gives up by: the place of the token at which it can't go on, and why.
type stop struct {
	place int
	why   api.Errno
}

// reader goes through tokens, the last of which is the end. Only what was looked at is gone behind, and never the end.
type reader struct {
	tokens []api.Token
	at     int
}

// next tells the token that is to be read.
func (r *reader) next() api.Token {
	return r.tokens[r.at]
}

// take goes behind the next token.
func (r *reader) take() api.Token {
	token := r.next()
	r.at++
	return token
}

// stands tells whether one of these signs or words is next. (No number or address has the text of one.)
func (r *reader) stands(texts ...string) bool {
	return slices.Contains(texts, r.next().Text)
}

// skip goes behind a sign or word, if it is next.
func (r *reader) skip(text string) bool {
	if !r.stands(text) {
		return false
	}
	r.take()
	return true
}

// must goes behind a sign or word, which must be next.
func (r *reader) must(text string) {
	if !r.skip(text) {
		r.stuck()
	}
}

// end asks that nothing is left.
func (r *reader) end() {
	if r.next().Kind != api.TokEnd {
		r.stuck()
	}
}

// number goes behind a number, which must be next.
func (r *reader) number() uint32 {
	if r.next().Kind != api.TokNumber {
		r.stuck()
	}
	return r.take().N
}

// address goes behind an address, which must be next, and tells of what it is one.
func (r *reader) address() (of int, a [16]byte) {
	e := api.OK
	switch r.next().Kind {
	case api.TokQuad:
		var quad [4]byte
		quad, e = addr.Parse4(r.next().Text)
		of = api.OfIP
		copy(a[:], quad[:])
	case api.TokSix:
		a, e = addr.Parse6(r.next().Text)
		of = api.OfIP6
	default:
		r.stuck()
	}
	if e != api.OK {
		r.giveUp(api.ErrParseAddr)
	}
	r.take()
	return of, a
}

// stuck gives up because nothing that begins with the next token may stand here.
func (r *reader) stuck() {
	if r.next().Kind == api.TokEnd {
		r.giveUp(api.ErrParseEnd)
	}
	r.giveUp(api.ErrParseToken)
}

// giveUp leaves all that is being read, to be caught at the face.
func (r *reader) giveUp(why api.Errno) {
	panic(stop{place: r.next().At, why: why})
}
