package reckon_test

import (
	"math/big"
	"testing"

	"riddle/api"
	"riddle/reckon"
)

// edges are words at which reckoning turns.
func edges() []uint32 {
	return []uint32{0, 1, 2, 3, 5, 7, 30, 31, 32, 33, 63, 64, 65, 255, 65535, 65536, 65537, 1<<31 - 1, 1 << 31, 1<<31 + 1, 1<<32 - 2, 1<<32 - 1}
}

// wanted reckons with whole numbers of any size, and makes a word of what comes of them.
func wanted(op int, a, b uint32) (uint32, bool) {
	x, y, out := new(big.Int).SetUint64(uint64(a)), new(big.Int).SetUint64(uint64(b)), new(big.Int)
	switch op {
	case api.OpAdd:
		out.Add(x, y)
	case api.OpSub:
		out.Sub(x, y)
	case api.OpMul:
		out.Mul(x, y)
	case api.OpDiv, api.OpMod:
		if b == 0 {
			return 0, false
		}
		rest := new(big.Int)
		out.DivMod(x, y, rest)
		if op == api.OpMod {
			out = rest
		}
	case api.OpAnd:
		out.And(x, y)
	case api.OpOr:
		out.Or(x, y)
	case api.OpXor:
		out.Xor(x, y)
	case api.OpShl, api.OpShr:
		if b > 31 {
			return 0, true
		}
		out.Lsh(x, uint(b))
		if op == api.OpShr {
			out.Rsh(x, uint(b))
		}
	default:
		return 0, false
	}
	return uint32(out.Mod(out, new(big.Int).Lsh(big.NewInt(1), 32)).Uint64()), true
}

func TestArith(t *testing.T) {
	for op := -1; op <= api.OpShr+2; op++ {
		for _, a := range edges() {
			for _, b := range edges() {
				v, ok := reckon.Arith(op, a, b)
				if want, wantOk := wanted(op, a, b); v != want || ok != wantOk {
					t.Errorf("D 4: operation %d of %d and %d: %d, %v; want %d, %v", op, a, b, v, ok, want, wantOk)
				}
			}
		}
	}
}

func TestMinus(t *testing.T) {
	for _, a := range edges() {
		if want, _ := wanted(api.OpSub, 0, a); reckon.Minus(a) != want {
			t.Errorf("D 4: 0 less %d: %d; want %d", a, reckon.Minus(a), want)
		}
	}
}

func TestDivides(t *testing.T) {
	for op := -1; op <= api.OpShr+2; op++ {
		if want := op == api.OpDiv || op == api.OpMod; reckon.Divides(op) != want {
			t.Errorf("D 4: operation %d: %v", op, !want)
		}
	}
}
