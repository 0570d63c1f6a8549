// Package reckon: how numbers are reckoned; whatever works out what a number of a tree is, does it here. See DOC.md, D 4.
package reckon

import "riddle/api"

// Arith tells what an operation of NodeArith makes of two words, and whether it makes anything: not of a divisor 0.
func Arith(op int, a, b uint32) (uint32, bool) {
	if Divides(op) && b == 0 {
		return 0, false
	}
	switch op {
	case api.OpAdd:
		return a + b, true
	case api.OpSub:
		return a - b, true
	case api.OpMul:
		return a * b, true
	case api.OpDiv:
		return a / b, true
	case api.OpMod:
		return a % b, true
	case api.OpAnd:
		return a & b, true
	case api.OpOr:
		return a | b, true
	case api.OpXor:
		return a ^ b, true
	// A shift by more than 31 leaves nothing of a word: the language's own shifts say so too, however far they go.
	case api.OpShl:
		return a << b, true
	case api.OpShr:
		return a >> b, true
	}
	return 0, false
}

// Divides tells whether an operation of NodeArith has a divisor, its second part.
func Divides(op int) bool {
	return op == api.OpDiv || op == api.OpMod
}

// Minus tells 0 less a word.
func Minus(a uint32) uint32 {
	return -a
}
