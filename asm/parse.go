package asm

import (
	"math"
	"strings"

	"riddle/api"
)

// Parse tells the program whose text s is; or which line is wrong, and why.
func Parse(s string) ([]api.Insn, int, api.Errno) {
	if len(s) > api.MaxText {
		return nil, 0, api.ErrAsmLong
	}
	known := forms()
	rows := rowsOf(known)
	var out []api.Insn
	for number := 1; s != ""; number++ {
		if number > api.MaxProgram {
			return nil, number, api.ErrAsmMany
		}
		var line string
		line, s, _ = strings.Cut(s, "\n")
		i, ok := read(rows, line)
		// Rows take needless noughts, and the raw one takes any instruction; of all these texts one alone is the instruction's.
		if !ok || string(appendLine(nil, known, i)) != line {
			return nil, number, api.ErrAsmLine
		}
		out = append(out, i)
	}
	return out, 0, api.OK
}

// row is what a line of one form must hold.
type row struct {
	code   uint16
	expect func(r *reader) bool
}

// reader is how far a line has been read, and what was found so far.
type reader struct {
	rest string
	insn api.Insn
}

// rowsOf tells the rows of all forms, the raw one with them.
func rowsOf(known []form) []row {
	out := make([]row, 0, len(known)+1)
	for _, f := range known {
		out = append(out, row{f.code, inTurn(f.text)})
	}
	return append(out, row{0, inTurn(rawForm)})
}

// inTurn expects what a form's text stands for, piece by piece, and the line's end behind that.
func inTurn(text string) func(r *reader) bool {
	var steps []func(r *reader) bool
	for text != "" {
		plain := strings.IndexAny(text, "CTFK")
		if plain < 0 {
			plain = len(text)
		}
		if plain > 0 {
			steps = append(steps, literal(text[:plain]))
			text = text[plain:]
			continue
		}
		steps = append(steps, number(text[0]))
		text = text[1:]
	}
	return func(r *reader) bool {
		for _, step := range steps {
			if !step(r) {
				return false
			}
		}
		return r.rest == ""
	}
}

func literal(text string) func(r *reader) bool {
	return func(r *reader) bool {
		var ok bool
		r.rest, ok = strings.CutPrefix(r.rest, text)
		return ok
	}
}

func number(letter byte) func(r *reader) bool {
	switch letter {
	case 'C':
		return (*reader).code
	case 'T':
		return (*reader).jumpTrue
	case 'F':
		return (*reader).jumpFalse
	}
	return (*reader).constant
}

// read tells the instruction of the first row that takes the line: no two rows take the same.
func read(rows []row, line string) (api.Insn, bool) {
	var r reader
	for _, w := range rows {
		r = reader{rest: line, insn: api.Insn{Code: w.code}}
		if w.expect(&r) {
			return r.insn, true
		}
	}
	return api.Insn{}, false
}

func (r *reader) code() bool {
	v, ok := r.number(math.MaxUint16)
	r.insn.Code = uint16(v)
	return ok
}

func (r *reader) jumpTrue() bool {
	v, ok := r.number(math.MaxUint8)
	r.insn.Jt = uint8(v)
	return ok
}

func (r *reader) jumpFalse() bool {
	v, ok := r.number(math.MaxUint8)
	r.insn.Jf = uint8(v)
	return ok
}

func (r *reader) constant() bool {
	v, ok := r.number(math.MaxUint32)
	r.insn.K = uint32(v)
	return ok
}

// number reads all digits that stand ahead. It gives up as soon as they say too much: read on, they could wrap to a number that fits.
func (r *reader) number(greatest uint64) (uint64, bool) {
	var v uint64
	at := 0
	for ; at < len(r.rest) && r.rest[at] >= '0' && r.rest[at] <= '9'; at++ {
		v = v*10 + uint64(r.rest[at]-'0')
		if v > greatest {
			return 0, false
		}
	}
	r.rest = r.rest[at:]
	return v, at > 0
}
