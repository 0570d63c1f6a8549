package opt

import (
	"riddle/api"
	"riddle/insn"
)

// value is what is known of a word: below length it is that constant; from there on it is a number that stands for something which the packet decides. Words of one value hold the same.
type value uint64

// length stands for how many bytes the packet has.
const length value = 1 << 32

func (v value) constant() bool {
	return v < length
}

// The words of a run: the scratch words at their own places, then A and X.
const (
	wordA = api.MaxScratch + iota
	wordX
	wordCount
)

// words are what is known of all words at a place. At first all of them are 0, as those of a run are.
type words [wordCount]value

// swap tells the words where each that holds old is known to hold young.
func (w words) swap(old, young value) words {
	for at, v := range w {
		if v == old {
			w[at] = young
		}
	}
	return w
}

// set is some of the words, a bit each, at its word's place.
type set uint32

func only(word int) set {
	return 1 << word
}

func (s set) has(word int) bool {
	return s&only(word) != 0
}

// withX is the bit by which a code of ClassAlu or ClassJmp that looks at X differs from the one that looks at K.
const withX = api.AddX ^ api.AddK

// target tells the word that an instruction of a Code writes: each writes one.
func target(i api.Insn) int {
	switch insn.Class(i.Code) {
	case api.ClassSt, api.ClassStx:
		return int(i.K)
	case api.ClassLdx:
		return wordX
	}
	if i.Code == api.Tax {
		return wordX
	}
	return wordA
}

// sources tells the words that an instruction reads.
func sources(i api.Insn) set {
	switch i.Code {
	case api.LdMem, api.LdxMem:
		return only(int(i.K))
	case api.LdIndW, api.LdIndH, api.LdIndB, api.Stx, api.Txa:
		return only(wordX)
	case api.St, api.Tax, api.RetA:
		return only(wordA)
	}
	switch insn.Class(i.Code) {
	case api.ClassAlu, api.ClassJmp:
		if looksAtX(i) {
			return only(wordA) | only(wordX)
		}
		return only(wordA)
	}
	return 0
}

// looksAtX tells whether an instruction that takes A and another number takes X as that one.
func looksAtX(i api.Insn) bool {
	class := insn.Class(i.Code)
	return (class == api.ClassAlu || class == api.ClassJmp) && i.Code&withX != 0
}

// mayFail tells whether an instruction may end a run by a fault.
func mayFail(i api.Insn) bool {
	_, _, may := insn.Uses(i.Code)
	return may
}

// indexed tells the load from K on that a load from X + K on differs from by X alone.
func indexed(code uint16) (uint16, bool) {
	switch code {
	case api.LdIndW:
		return api.LdAbsW, true
	case api.LdIndH:
		return api.LdAbsH, true
	case api.LdIndB:
		return api.LdAbsB, true
	}
	return 0, false
}

// asksFor tells how many bytes of the packet an instruction reads.
func asksFor(code uint16) uint64 {
	switch code {
	case api.LdAbsW, api.LdIndW:
		return 4
	case api.LdAbsH, api.LdIndH:
		return 2
	case api.LdAbsB, api.LdIndB, api.LdxMsh:
		return 1
	}
	return 0
}
