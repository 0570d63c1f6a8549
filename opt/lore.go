package opt

import (
	"math"

	"riddle/api"
	"riddle/insn"
	"riddle/machine"
)

// lore is what is known of the words at each block's beginning, whatever the packet is. No run comes to a block twice: so what an instruction has made is one thing for the whole run, and one number can stand for it.
type lore struct {
	at     []words
	come   []bool // whether a run may come to the block
	newest value
	bench  machine.Machine
}

// learn goes through the blocks in their order: all that lead to one stand ahead of it.
func (d draft) learn() *lore {
	l := &lore{at: make([]words, len(d)), come: make([]bool, len(d)), newest: length, bench: machine.Over(nil)}
	l.come[0] = true
	for n, b := range d {
		if !l.come[n] {
			continue
		}
		if w, goesOn := l.through(b.Code, l.at[n]); goesOn {
			l.leave(b, w)
		}
	}
	return l
}

// fresh tells a value of which nothing is known.
func (l *lore) fresh() value {
	l.newest++
	return l.newest
}

// through tells the words behind a Code, and whether a run may come to its end.
func (l *lore) through(code []api.Insn, w words) (words, bool) {
	for _, i := range code {
		if fails(i, w) {
			return words{}, false
		}
		w[target(i)] = l.result(i, w)
	}
	return w, true
}

func (l *lore) leave(b api.Block, w words) {
	switch b.End {
	case api.EndGo:
		l.enter(b.Yes, w)
	case api.EndTest:
		yes, known := l.answer(b.Last, w)
		if yes || !known {
			l.enter(b.Yes, taught(b.Last, w))
		}
		if !yes {
			l.enter(b.No, w)
		}
	}
}

// enter has the words of a further way into a block.
func (l *lore) enter(n int, w words) {
	if l.come[n] {
		w = l.met(l.at[n], w)
	}
	l.at[n], l.come[n] = w, true
}

// met tells what is known where two ways meet: of words that differ, but hold the same as one another on either way, that they do.
func (l *lore) met(one, two words) words {
	out := one
differing:
	for at := range out {
		if one[at] == two[at] {
			continue
		}
		for ahead := range at {
			if one[ahead] == one[at] && two[ahead] == two[at] {
				out[at] = out[ahead]
				continue differing
			}
		}
		out[at] = l.fresh()
	}
	return out
}

// taught tells what is known where a question's answer is yes.
func taught(question api.Insn, w words) words {
	if question.Code&^withX != api.JeqK {
		return w
	}
	a, by := w[wordA], operand(question, w)
	if a.constant() {
		return w.swap(by, a)
	}
	return w.swap(a, by)
}

// operand tells what stands beside A: K, or X where the code looks at that.
func operand(i api.Insn, w words) value {
	if i.Code&withX != 0 {
		return w[wordX]
	}
	return value(i.K)
}

// fails tells whether an instruction ends the run by a fault, whatever the packet is.
func fails(i api.Insn, w words) bool {
	if i.Code == api.DivX || i.Code == api.ModX {
		return w[wordX] == 0
	}
	size := asksFor(i.Code)
	if size == 0 {
		return false
	}
	place := uint64(i.K)
	if _, ok := indexed(i.Code); ok && w[wordX].constant() {
		place += uint64(w[wordX])
	}
	return place+size > api.MaxPacket
}

// result tells what an instruction writes that does not fail.
func (l *lore) result(i api.Insn, w words) value {
	switch i.Code {
	case api.LdImm, api.LdxImm:
		return value(i.K)
	case api.LdMem, api.LdxMem:
		return w[i.K]
	case api.LdLen, api.LdxLen:
		return length
	case api.St, api.Tax:
		return w[wordA]
	case api.Stx, api.Txa:
		return w[wordX]
	}
	if insn.Class(i.Code) == api.ClassAlu {
		return l.reckoned(i, w)
	}
	return l.fresh()
}

func (l *lore) reckoned(i api.Insn, w words) value {
	a, by := w[wordA], operand(i, w)
	switch {
	case a.constant() && by.constant():
		l.bench.A, l.bench.X = uint32(a), uint32(by)
		l.bench.Do(i)
		return value(l.bench.A)
	case by.constant() && keeps(i.Code, uint32(by)):
		return a
	case by.constant():
		if v, ok := overrules(i.Code, uint32(by)); ok {
			return v
		}
	case a == by:
		if v, ok := withItself(i.Code, a); ok {
			return v
		}
	}
	return l.fresh()
}

// keeps tells whether an operation leaves A as it is, whatever it is.
func keeps(code uint16, by uint32) bool {
	switch code &^ withX {
	case api.AddK, api.SubK, api.OrK, api.XorK, api.LshK, api.RshK:
		return by == 0
	case api.MulK, api.DivK:
		return by == 1
	case api.AndK:
		return by == math.MaxUint32
	}
	return false
}

// overrules tells what an operation makes of A, where that is the same whatever A is.
func overrules(code uint16, by uint32) (value, bool) {
	switch code &^ withX {
	case api.MulK, api.AndK:
		return 0, by == 0
	case api.ModK:
		return 0, by == 1
	case api.LshK, api.RshK:
		return 0, by > 31
	case api.OrK:
		return math.MaxUint32, by == math.MaxUint32
	}
	return 0, false
}

// withItself tells what an operation makes of A, where X is the same. (A division is left alone: of 0 by 0 it is a fault.)
func withItself(code uint16, a value) (value, bool) {
	switch code {
	case api.SubX, api.XorX:
		return 0, true
	case api.AndX, api.OrX:
		return a, true
	}
	return 0, false
}

// answer tells a question's answer, and whether it is known.
func (l *lore) answer(question api.Insn, w words) (yes, known bool) {
	a, by := w[wordA], operand(question, w)
	if a.constant() && by.constant() {
		l.bench.A, l.bench.X = uint32(a), uint32(by)
		return l.bench.Ask(question), true
	}
	switch question.Code &^ withX {
	case api.JeqK:
		return a == by, a == by
	case api.JgtK:
		return false, a == by || by == math.MaxUint32
	case api.JgeK:
		yes = a == by || by == 0
		return yes, yes
	}
	return false, by == 0
}
