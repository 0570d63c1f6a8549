package types_test

import (
	"math/rand"
	"slices"
	"strings"
	"testing"

	"riddle/api"
	"riddle/types"
)

// constant holds a list to be a constant of that value.
func constant(t *testing.T, l []api.Node, v uint32) {
	t.Helper()
	if got, ok := types.Constant(l); got != v || !ok {
		t.Errorf("P12.2: %s: %d, %v; want %d", told(l), got, ok, v)
	}
}

// noConstant holds a list to be none.
func noConstant(t *testing.T, l []api.Node) {
	t.Helper()
	if got, ok := types.Constant(l); got != 0 || ok {
		t.Errorf("P12.2: %s: %d, %v; want none", told(l), got, ok)
	}
}

func TestConstants(t *testing.T) {
	for s, v := range map[string]uint32{
		"0": 0, "7": 7, "4294967295": 1<<32 - 1, "1 + 2": 3, "4294967295 + 2": 1, "1 - 2": 1<<32 - 1, "0 - 4294967295": 1,
		"65536 * 65536": 0, "65537 * 65537": 131073, "4294967295 * 4294967295": 1, "7 / 2": 3, "0 / 7": 0, "4294967295 / 4294967294": 1, "7 % 4": 3, "4294967295 % 65536": 65535,
		"12 & 10": 8, "12 | 10": 14, "12 ^ 10": 6, "1 << 31": 1 << 31, "1 << 32": 0, "3 << 31": 1 << 31, "1 << 4294967295": 0, "5 << 0": 5,
		"4294967295 >> 31": 1, "4294967295 >> 32": 0, "4294967295 >> 4294967295": 0, "5 >> 0": 5, "- 1 >> 31": 1,
		"-0": 0, "-1": 1<<32 - 1, "- - 5": 5, "-2147483648": 1 << 31, "-(1 + 2) * 2": 1<<32 - 6,
		"1 / (0 - 1)": 0, "5 / (1 << 32 | 1)": 5, "5 % (3 - 1)": 1, "(5|2)^1&3": 6, "7 / 2 % 2": 1, "1 - (2 - 3)": 2,
	} {
		constant(t, source(t, s), v)
	}
	for _, s := range []string{
		"1 / 0", "1 % 0", "0 / 0", "0 % 0", "1 / (1 - 1)", "1 % (2 & 1)", "1 / - 0", "1 / (1 << 32)", "(1 / 0) * 0", "0 * (1 / 0)", "-(1 / 0)", "1 + 2 / (3 - 3)",
		"len", "0 * len", "len - len", "-len", "1 / len", "len / 0", "ip[0]", "ip[0] * 0", "0 & ppp[1]", "ip[1 / 0]",
		"ip", "1 = 1", "not ip", "ip and ip", "1 = 1 or ip", "inbound", "port 1",
	} {
		noConstant(t, source(t, s))
	}
}

func TestNoConstants(t *testing.T) {
	one := number(1)
	for _, l := range [][]api.Node{
		nil, {}, list(one, one), list(one, one, one, arith(api.OpAdd)), list(one, arith(api.OpAdd)), list(arith(api.OpAdd)), list(kind(api.NodeMinus)), list(kind(0)), list(kind(17)),
		list(api.Node{Kind: api.NodeNumber, N: 1, M: 1}), list(api.Node{Kind: api.NodeNumber, N: 1, Bits: 1}), list(api.Node{Kind: api.NodeNumber, N: 1, Op: 1}),
		list(one, one, arith(0)), list(one, one, arith(11)), list(one, one, api.Node{Kind: api.NodeArith, Op: 1, N: 1}), list(one, api.Node{Kind: api.NodeMinus, Side: 1}),
		list(ip(), kind(api.NodeMinus)), list(ip(), one, arith(api.OpAdd)), list(one, ip(), arith(api.OpAdd)), list(one, kind(api.NodeNot)),
		list(one, ip()), list(ip(), one), list(one, kind(-1)),
	} {
		noConstant(t, l)
	}
}

// The divisor alone decides, however deep it is, and whatever is divided.
func TestDivisors(t *testing.T) {
	for _, op := range []int{api.OpDiv, api.OpMod} {
		for _, s := range []string{"0", "1", "len", "ip[0]", "5 - len"} {
			over := source(t, s)
			for divisor, zero := range map[string]bool{
				"0": true, "1 - 1": true, "- 0": true, "0 * 7": true, "2 & 1": true, "1 << 32": true, "5 >> 3": true, "65536 * 65536": true, "7 % 7": true, "3 / 4": true, "4294967295 + 1": true, "6 ^ (2 | 4)": true,
				"-(1 - (2 - 1))": true, "((1 + 2) * 3 - 9) / 5": true,
				"1": false, "4294967295": false, "- 1": false, "1 << 31": false, "3 - 4": false,
				"len": false, "len - len": false, "0 * len": false, "ip[0] & 0": false, "0 / len": false, "- len": false,
			} {
				l := append(slices.Concat(over, source(t, divisor)), arith(op))
				if zero {
					answers(t, l, len(l)-1, api.ErrTypeZero)
					answers(t, append(slices.Clone(l), number(0), rel(api.OpEq)), len(l)-1, api.ErrTypeZero)
					noConstant(t, l)
				} else {
					takes(t, append(slices.Clone(l), number(0), rel(api.OpEq)))
				}
			}
		}
	}
	// Nothing else divides, and a dividend 0 is none.
	for op := api.OpAdd; op <= api.OpShr; op++ {
		takes(t, list(number(0), number(1), arith(op), number(1), rel(api.OpEq)))
		if op != api.OpDiv && op != api.OpMod {
			takes(t, list(number(1), number(0), arith(op), number(1), rel(api.OpEq)))
		}
	}
	for op := api.OpEq; op <= api.OpGe; op++ {
		takes(t, list(number(1), number(0), rel(op)))
	}
	// A divisor that is no constant because of what it divides by: that one counts.
	answers(t, source(t, "1 / (1 / 0) = 1"), 3, api.ErrTypeZero)
	answers(t, source(t, "len % (len / 0) = 1"), 3, api.ErrTypeZero)
}

// Each operation over words at which something turns.
func TestEachOperation(t *testing.T) {
	edges := []uint32{0, 1, 2, 3, 7, 31, 32, 33, 255, 65535, 65536, 65537, 1<<31 - 1, 1 << 31, 1<<32 - 2, 1<<32 - 1}
	for _, a := range edges {
		agrees(t, list(number(a)))
		agrees(t, list(number(a), kind(api.NodeMinus)))
		for _, b := range edges {
			for op := 0; op <= api.OpShr+1; op++ {
				agrees(t, list(number(a), number(b), arith(op)))
				agrees(t, list(number(a), number(b), kind(api.NodeMinus), arith(op), kind(api.NodeMinus)))
			}
		}
	}
}

// A weight above MaxWeight does not matter to Constant, nor how deep a tree is.
func TestGreatConstants(t *testing.T) {
	const deep = 1 << 16
	constant(t, append(list(number(1)), slices.Repeat(list(kind(api.NodeMinus)), deep)...), 1)
	constant(t, append(list(number(1)), slices.Repeat(list(kind(api.NodeMinus)), deep-1)...), 1<<32-1)
	constant(t, append(list(number(5)), slices.Repeat(list(number(3), arith(api.OpAdd)), deep)...), 5+3*deep)
	right := slices.Concat(slices.Repeat(list(number(1)), deep), slices.Repeat(list(arith(api.OpSub)), deep-1))
	constant(t, right, 0)
	constant(t, slices.Concat(list(number(9)), right, list(arith(api.OpSub))), 9)
	answers(t, slices.Concat(list(number(9)), right, list(arith(api.OpDiv))), 2*deep, api.ErrTypeZero)
	constant(t, source(t, "1"+strings.Repeat("*3", 20000)), power(3, 20000))
	noConstant(t, append(list(kind(api.NodeLen)), slices.Repeat(list(number(3), arith(api.OpAdd)), deep)...))
}

func power(base uint32, by int) uint32 {
	out := uint32(1)
	for range by {
		out *= base
	}
	return out
}

// Constant of a node over constants is what it is over their values.
func TestFromParts(t *testing.T) {
	chance := rand.New(rand.NewSource(2))
	seen := 0
	for range 3000 {
		g := grower{chance: chance, constants: true}
		g.number(1 + chance.Intn(5))
		parts, _ := types.Parts(g.l)
		var flat []api.Node
		for _, part := range parts {
			v, ok := types.Constant(part)
			if !ok {
				flat = nil
				break
			}
			flat = append(flat, number(v))
		}
		v, ok := types.Constant(g.l)
		if len(flat) != len(parts) {
			noConstant(t, g.l)
			continue
		}
		want, is := types.Constant(append(flat, g.l[len(g.l)-1]))
		if v != want || ok != is {
			t.Errorf("P12.5: %s: %d, %v; want %d, %v", told(g.l), v, ok, want, is)
		}
		seen++
	}
	if seen < 1000 {
		t.Errorf("only %d were over constants", seen)
	}
}
