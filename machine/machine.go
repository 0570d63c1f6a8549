// Package machine: the words of a run, and what the instructions do to them; whatever runs instructions, runs them here. See DOC.md, chapter 5.
package machine

import (
	"riddle/api"
	"riddle/insn"
	"riddle/word"
)

// Words are what a run reckons with.
type Words struct {
	A, X uint32
	M    [api.MaxScratch]uint32
}

// Machine is the words of a run over a packet. It relies on its callers for instructions in which check finds no fault.
type Machine struct {
	Words
	packet    []byte
	fault     int
	deeds     []deed
	questions []question
}

// deed is what an instruction does that is neither a jump nor a return.
type deed func(m *Machine, by uint32)

// question is what a jump asks that has two goals.
type question func(w *Words, by uint32) bool

// Over tells a machine at its beginning.
func Over(packet []byte) Machine {
	return Machine{packet: packet, deeds: deeds(), questions: questions()}
}

// Do carries out an instruction that is neither a jump nor a return, and tells the fault that ends the run at it.
func (m *Machine) Do(i api.Insn) int {
	m.deeds[i.Code](m, m.operand(i))
	return m.fault
}

// Ask tells the answer to the question of a jump that has two goals.
func (m *Machine) Ask(i api.Insn) bool {
	return m.questions[i.Code](&m.Words, m.operand(i))
}

// Give tells the value of a return.
func (m *Machine) Give(i api.Insn) uint32 {
	if looksAtK(i) {
		return i.K
	}
	return m.A
}

// operand tells K, or X where the code does not look at K; a deed that needs neither leaves it aside.
func (m *Machine) operand(i api.Insn) uint32 {
	if looksAtK(i) {
		return i.K
	}
	return m.X
}

func looksAtK(i api.Insn) bool {
	looks, _, _ := insn.Uses(i.Code)
	return looks
}

// deeds has them at their codes' places.
func deeds() []deed {
	return []deed{
		api.LdImm: (*Machine).setA, api.LdMem: (*Machine).recallA, api.LdLen: (*Machine).lengthToA,
		api.LdAbsW: (*Machine).wordAt, api.LdAbsH: (*Machine).halfAt, api.LdAbsB: (*Machine).byteAt,
		api.LdIndW: (*Machine).wordFromX, api.LdIndH: (*Machine).halfFromX, api.LdIndB: (*Machine).byteFromX,
		api.LdxImm: (*Machine).setX, api.LdxMem: (*Machine).recallX, api.LdxLen: (*Machine).lengthToX,
		api.LdxMsh: (*Machine).headerAt,
		api.St:     (*Machine).keepA, api.Stx: (*Machine).keepX,
		api.AddK: (*Machine).add, api.AddX: (*Machine).add,
		api.SubK: (*Machine).subtract, api.SubX: (*Machine).subtract,
		api.MulK: (*Machine).multiply, api.MulX: (*Machine).multiply,
		api.DivK: (*Machine).divide, api.DivX: (*Machine).divide,
		api.ModK: (*Machine).remain, api.ModX: (*Machine).remain,
		api.OrK: (*Machine).or, api.OrX: (*Machine).or,
		api.AndK: (*Machine).and, api.AndX: (*Machine).and,
		api.XorK: (*Machine).xor, api.XorX: (*Machine).xor,
		api.LshK: (*Machine).shiftLeft, api.LshX: (*Machine).shiftLeft,
		api.RshK: (*Machine).shiftRight, api.RshX: (*Machine).shiftRight,
		api.Neg: (*Machine).negate,
		api.Tax: (*Machine).copyToX, api.Txa: (*Machine).copyToA,
	}
}

// questions has them at their codes' places.
func questions() []question {
	return []question{
		api.JeqK: (*Words).equal, api.JeqX: (*Words).equal,
		api.JgtK: (*Words).above, api.JgtX: (*Words).above,
		api.JgeK: (*Words).atLeast, api.JgeX: (*Words).atLeast,
		api.JsetK: (*Words).common, api.JsetX: (*Words).common,
	}
}

func (m *Machine) lengthToA(uint32) { m.A = uint32(len(m.packet)) }
func (m *Machine) lengthToX(uint32) { m.X = uint32(len(m.packet)) }

func (m *Machine) wordAt(k uint32) { m.A = m.load(uint64(k), 4) }
func (m *Machine) halfAt(k uint32) { m.A = m.load(uint64(k), 2) }
func (m *Machine) byteAt(k uint32) { m.A = m.load(uint64(k), 1) }

func (m *Machine) wordFromX(k uint32) { m.A = m.load(m.fromX(k), 4) }
func (m *Machine) halfFromX(k uint32) { m.A = m.load(m.fromX(k), 2) }
func (m *Machine) byteFromX(k uint32) { m.A = m.load(m.fromX(k), 1) }

// headerAt reads the length of an IP header: the low half of its first byte counts words.
func (m *Machine) headerAt(k uint32) { m.X = 4 * (m.load(uint64(k), 1) & 15) }

// fromX is wider than a word: places do not wrap.
func (m *Machine) fromX(k uint32) uint64 { return uint64(m.X) + uint64(k) }

func (m *Machine) load(place uint64, size int) uint32 {
	// Held against the packet's end while it is wide: as an int, the place could wrap.
	if place >= uint64(len(m.packet)) {
		m.fault = api.FaultLoad
		return 0
	}
	v, ok := word.Get(m.packet, int(place), size)
	if !ok {
		m.fault = api.FaultLoad
	}
	return v
}

func (m *Machine) divide(by uint32) {
	if by == 0 {
		m.fault = api.FaultZero
		return
	}
	m.A /= by
}

func (m *Machine) remain(by uint32) {
	if by == 0 {
		m.fault = api.FaultZero
		return
	}
	m.A %= by
}
