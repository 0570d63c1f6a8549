package lower

import (
	"slices"

	"riddle/api"
	"riddle/reckon"
)

// number is code after which A is what a number comes to. Where that is a fault, the code is one when it runs.
type number struct {
	code     []api.Insn
	needs    int    // how many words, from wordSpare on, the code writes into
	speaks   uint32 // what its loads speak of, OfPPP aside: a bit each, at its number's place
	constant bool
	value    uint32 // of a constant
}

func constant(value uint32) number {
	return number{code: []api.Insn{do(api.LdImm, value)}, constant: true, value: value}
}

func length() number {
	return number{code: []api.Insn{do(api.LdMem, wordLen)}}
}

func minus(x number) number {
	if x.constant {
		return constant(reckon.Minus(x.value))
	}
	x.code = slices.Concat(x.code, []api.Insn{do(api.Neg, 0)})
	return x
}

func arith(op int, x, y number) number {
	if x.constant && y.constant {
		// It comes to something: no filter has a divisor that is a constant 0.
		value, _ := reckon.Arith(op, x.value, y.value)
		return constant(value)
	}
	p := paired(x, y, operation(op))
	return number{code: append(p.code, p.last), needs: p.needs, speaks: x.speaks | y.speaks}
}

// operation tells the code by which A and K become what an operation makes of them.
func operation(op int) uint16 {
	switch op {
	case api.OpAdd:
		return api.AddK
	case api.OpSub:
		return api.SubK
	case api.OpMul:
		return api.MulK
	case api.OpDiv:
		return api.DivK
	case api.OpMod:
		return api.ModK
	case api.OpAnd:
		return api.AndK
	case api.OpOr:
		return api.OrK
	case api.OpXor:
		return api.XorK
	case api.OpShl:
		return api.LshK
	}
	return api.RshK
}

// withX is the bit by which a code that looks at X differs from the one that looks at K.
const withX = api.AddX ^ api.AddK

// pair is the code that lays two numbers side by side, and the instruction that takes both.
type pair struct {
	code  []api.Insn
	last  api.Insn
	needs int
}

// paired lays x into A, and y into X or, where it may be, into the K of the instruction that takes them.
func paired(x, y number, code uint16) pair {
	if y.constant && mayBeK(code, y.value) {
		return pair{code: slices.Clone(x.code), last: do(code, y.value), needs: x.needs}
	}
	// What needs more words goes first: it takes up one word alone while the other one is worked out. So a number of fewer than 2^k leaves needs fewer than k words, and none that a weight allows needs more than there are.
	needs := max(x.needs, y.needs)
	if x.needs == y.needs {
		needs++
	}
	kept := uint32(wordSpare + needs - 1)
	p := pair{last: do(code|withX, 0), needs: needs}
	if x.needs > y.needs {
		p.code = slices.Concat(x.code, []api.Insn{do(api.St, kept)}, y.code, []api.Insn{do(api.Tax, 0), do(api.LdMem, kept)})
	} else {
		p.code = slices.Concat(y.code, []api.Insn{do(api.St, kept)}, x.code, []api.Insn{do(api.LdxMem, kept)})
	}
	return p
}

// mayBeK tells whether check takes a constant as the K of a code: not, where it shifts too far. A divisor 0 is in no filter.
func mayBeK(code uint16, value uint32) bool {
	shifts := code == api.LshK || code == api.RshK
	return !shifts || value <= 31
}

// reads tells the code that reads so many bytes from X on.
func reads(size int) uint16 {
	switch size {
	case 1:
		return api.LdIndB
	case 2:
		return api.LdIndH
	}
	return api.LdIndW
}

func load(n api.Node, index number) number {
	// Places are exact sums of X and K, so it is only a sum in A that could wrap.
	code := reads(n.Size)
	if n.Of == api.OfPPP {
		return index.behind(intoX(index), do(code, begins))
	}
	index.speaks |= 1 << n.Of
	base := baseOf(n.Of)
	if index.constant {
		return index.behind(nil, do(api.LdxMem, base), do(code, index.value))
	}
	// A byte that is read at the index itself: if it is not in the packet, the load is a fault too; if it is, base and index are too small to wrap.
	within := do(api.LdIndB, 0)
	return index.behind(intoX(index), within, do(api.LdMem, base), do(api.AddX, 0), do(api.Tax, 0), do(code, 0))
}

// intoX tells code that lays an index into X.
func intoX(index number) []api.Insn {
	if index.constant {
		return []api.Insn{do(api.LdxImm, index.value)}
	}
	return append(slices.Clone(index.code), do(api.Tax, 0))
}

// behind tells the number that is read by instructions behind the code that they need.
func (index number) behind(ahead []api.Insn, read ...api.Insn) number {
	return number{code: append(ahead, read...), needs: index.needs, speaks: index.speaks}
}

// baseOf tells the word that has the place from which a load of something counts.
func baseOf(of int) uint32 {
	if carried(of) {
		return wordLoad
	}
	return wordAt
}

// carried tells whether something is what IP or IP6 carries.
func carried(of int) bool {
	switch of {
	case api.OfTCP, api.OfUDP, api.OfICMP, api.OfICMP6:
		return true
	}
	return false
}
