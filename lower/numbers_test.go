package lower_test

import (
	"encoding/binary"
	"math/big"
	"slices"
	"testing"

	"riddle/api"
	"riddle/frame"
	"riddle/mean"
)

// read tells a load of an index.
func read(of, size int, index ...api.Node) []api.Node {
	return append(slices.Clone(index), load(of, size))
}

// varied tells numbers that come to n in different ways: as they stand, by a constant part, and by what only the frame tells.
func varied(n uint32) [][]api.Node {
	lens := list(kind(api.NodeLen), kind(api.NodeLen), arith(api.OpSub))
	return [][]api.Node{list(number(n)), list(number(n-1), number(1), arith(api.OpAdd)), reckoned(api.OpAdd, lens, list(number(n))), reckoned(api.OpAdd, list(number(n)), lens)}
}

// loads holds each comparison of a load, by itself and under not, to what the load comes to.
func (n *tally) loads(t *testing.T, l []api.Node, link api.Link, frames ...[]byte) {
	t.Helper()
	for _, b := range frames {
		value, how, e := mean.Value(l, link, api.WayIn, b)
		if e != api.OK {
			t.Fatalf("%s is no number: %d", told(l), e)
		}
		n[how]++
		same, under := holds(how == api.JudgeYes), holds(how == api.JudgeNo)
		says(t, compared(api.OpEq, l, list(number(value))), link, b, same)
		says(t, not(compared(api.OpEq, list(number(value)), l)), link, b, under)
		says(t, compared(api.OpNe, l, list(number(value))), link, b, 0)
	}
}

// inside tells how many indexes there are at which a load reads bytes that are in a frame, if what it speaks of is there.
func inside(of, size int, v api.View, b []byte) uint32 {
	base := v.At
	switch of {
	case api.OfPPP:
		base = 0
	case api.OfTCP, api.OfUDP, api.OfICMP, api.OfICMP6:
		base = v.Load
	}
	return uint32(max(0, len(b)-base-size+1))
}

// Loads of each name and size, on every link: at the first byte, at the last that is there, and one behind it.
func TestLoads(t *testing.T) {
	t.Parallel()
	var n tally
	turn := 0
	for at, link := range links() {
		for _, c := range oneOfContents(37, 5*at) {
			ahead := aheads(link, c.proto)
			b := joined(ahead[at*7%len(ahead)], c.load)
			v, _ := frame.Look(link, b)
			for of := api.OfPPP; of <= api.OfIP6CP; of++ {
				for _, size := range sizes() {
					count := inside(of, size, v, b)
					for _, index := range []uint32{0, count - 1, count, count + 1} {
						turn++
						n.loads(t, read(of, size, varied(index)[turn%4]...), link, b)
					}
				}
			}
		}
	}
	n.enough(t, 100)
}

// An index is an exact sum with the base: it does not come round to the frame's beginning.
func TestGreatIndexes(t *testing.T) {
	t.Parallel()
	for _, b := range [][]byte{f(), behind(f(), api.MaxFrame-28)} {
		var faults tally
		for of, base := range map[int]uint32{api.OfPPP: 0, api.OfIP: 4, api.OfUDP: 24} {
			for _, size := range sizes() {
				for _, back := range []uint32{1, 2, 4, 5, 6, 24, 25, 28, 1 << 16, 1 << 31} {
					for turn, index := range varied(-back) {
						faults.loads(t, read(of, size, index...), plain(), b)
						if turn%2 == 0 {
							faults.loads(t, read(of, size, varied(-back - base)[turn]...), plain(), b)
						}
					}
				}
			}
		}
		if faults[api.JudgeNo] != 0 || faults[api.JudgeYes] != 0 {
			t.Errorf("some of these were no faults: %v", faults)
		}
	}
	for s, want := range map[string]uint32{
		"ip[4294967295 + 10] = 17": 1, "ip[0 - 1 + 10] = 17": 1, "ip[-(0 - 9)] = 17": 1, "ip[65536 * 65536 + 9] = 17": 1, "ip[len - 29 + 10] = 17": 1,
		"udp[0 - 24] = 255": 0, "udp[len - 52] = 255": 0, "ip[len - 32] = 255": 0, "not ip[len - 32] = 255": 0, "ip[len - 33] = 0": 0, "ip[-len] = 255": 0, "ppp[len - 29] = 0": 0, "not ppp[-len:4] = 0": 0,
	} {
		says(t, source(t, s), plain(), f(), want)
	}
}

// Indexes with loads in them; what is not there counts ahead of a fault, wherever it stands in a relation.
func TestIndexes(t *testing.T) {
	for _, s := range []string{"ip[ip[0] & 15] = 0", "ip[(ip[0] & 15) * 4 + 3] = 54", "ppp[ppp[3] - 32] = 3", "ppp[ip[14]] = 0x21", "udp[udp[1] - 50] = 54", "ip[ip[ip[ip[12] + 11]]] = 0x45", "ppp[len / 2] = 0", "ip[12:4] >> 24 = 1", "ip[20 - ip[9] * 1 + 6] = 17"} {
		says(t, source(t, s), plain(), f(), 1)
		says(t, source(t, "not "+s), plain(), f(), 0)
	}
	faults := []string{"ppp[len]", "ppp[len - 3:4]", "ip[ip[12:4]]", "ip[udp[0:4]]", "ip[ip[99]]", "ip[ip[ip[99]]]", "ppp[len / ip[1]]", "-ip[99]", "ip[-1]", "ip[ip[99] * 0]", "1 / ip[1]", "5 % (len - 28)", "1 / (1 / len)"}
	absent := []string{"tcp[0]", "tcp[99]", "tcp[ip[99]]", "ip[tcp[0]]", "ip[ip[tcp[0]]]", "tcp[udp[0]]", "udp[tcp[99]]", "ppp[lcp[0]]", "tcp[len / ip[1]]", "ip[tcp[0] / ip[1]]", "-tcp[0]", "ip6[0] - ip6[0]", "0 * icmp[0]", "1 / tcp[0]", "1 / (tcp[0] * 0)", "pap[0]", "chap[1]", "ipcp[0]", "ip6cp[4:4]", "icmp6[0]"}
	for i, fault := range faults {
		says(t, source(t, fault+" = 0"), plain(), f(), 0)
		says(t, source(t, "not 0 = "+fault), plain(), f(), 0)
		for _, other := range faults {
			says(t, source(t, "not "+fault+" = "+other), plain(), f(), 0)
		}
		for _, other := range absent {
			op := []string{" = ", " != ", " < ", " <= ", " > ", " >= "}[i%6]
			for _, both := range []string{fault + op + other, other + op + fault, "1 + " + fault + " * " + other + op + "len", "len" + op + "ip[" + fault + "] - (" + other + ")"} {
				says(t, source(t, both), plain(), f(), 0)
				says(t, source(t, "not "+both), plain(), f(), 1)
			}
		}
	}
	for _, s := range absent {
		says(t, source(t, s+" = 0"), plain(), f(), 0)
		says(t, source(t, "not "+s+" != 0"), plain(), f(), 1)
	}
}

// edges are words at which reckoning turns.
func edges() []uint32 {
	return []uint32{0, 1, 2, 7, 30, 31, 32, 33, 63, 64, 255, 65535, 65536, 1<<31 - 1, 1 << 31, 1<<32 - 2, 1<<32 - 1}
}

// exactly reckons with whole numbers of any size, and makes a word of what comes of them; of a divisor 0 nothing comes.
func exactly(op int, a, b uint32) (uint32, bool) {
	x, y, out := new(big.Int).SetUint64(uint64(a)), new(big.Int).SetUint64(uint64(b)), new(big.Int)
	switch op {
	case api.OpAdd:
		out.Add(x, y)
	case api.OpSub:
		out.Sub(x, y)
	case api.OpMul:
		out.Mul(x, y)
	case api.OpDiv, api.OpMod:
		if b == 0 {
			return 0, false
		}
		rest := new(big.Int)
		out.DivMod(x, y, rest)
		if op == api.OpMod {
			out = rest
		}
	case api.OpAnd:
		out.And(x, y)
	case api.OpOr:
		out.Or(x, y)
	case api.OpXor:
		out.Xor(x, y)
	case api.OpShl:
		out.Lsh(x, uint(min(b, 64)))
	case api.OpShr:
		out.Rsh(x, uint(min(b, 64)))
	}
	return uint32(out.And(out, big.NewInt(1<<32-1)).Uint64()), true
}

// saying tells a frame that says words from its byte 4 on.
func saying(words ...uint32) []byte {
	b := fromHex("ff03c021")
	for _, w := range words {
		b = binary.BigEndian.AppendUint32(b, w)
	}
	return b
}

// said tells the number of the word at a place of such a frame.
func said(place uint32) []api.Node { return read(api.OfPPP, 4, number(4+4*place)) }

// Each operation of two numbers: both told by the frame, one of them, or none.
func TestOperations(t *testing.T) {
	t.Parallel()
	for op := api.OpAdd; op <= api.OpShr; op++ {
		whole := compared(api.OpEq, reckoned(op, said(0), said(1)), said(2))
		turned := compared(api.OpEq, said(2), reckoned(op, said(0), said(1)))
		both := [][]api.Block{lowered(t, whole, plain()), lowered(t, turned, plain()), lowered(t, not(whole), plain())}
		for _, y := range edges() {
			second := reckoned(op, said(0), list(number(y)))
			divides := op == api.OpDiv || op == api.OpMod
			for _, x := range edges() {
				v, ok := exactly(op, x, y)
				b := saying(x, y, v)
				comesTo(t, both[0], whole, plain(), 0, b, holds(ok))
				comesTo(t, both[1], turned, plain(), 0, b, holds(ok))
				comesTo(t, both[2], whole, plain(), 0, b, 0)
				comesTo(t, both[0], whole, plain(), 1, saying(x, y, v+1), 0)
				comesTo(t, both[2], whole, plain(), 1, saying(x, y, v-1), holds(ok))
				says(t, compared(api.OpEq, reckoned(op, list(number(x)), said(1)), list(number(v))), plain(), b, holds(ok))
				if divides && y == 0 {
					continue
				}
				says(t, compared(api.OpEq, second, list(number(v))), plain(), b, 1)
				says(t, compared(api.OpEq, reckoned(op, list(number(x)), list(number(y))), said(2)), plain(), b, 1)
				says(t, compared(api.OpNe, said(2), reckoned(op, list(number(x)), list(number(y)))), plain(), b, 0)
			}
		}
	}
}

func TestMinus(t *testing.T) {
	for _, x := range edges() {
		b := saying(x, -x)
		minus := list(kind(api.NodeMinus))
		for _, l := range [][]api.Node{said(0), list(number(x))} {
			says(t, compared(api.OpEq, slices.Concat(l, minus), said(1)), plain(), b, 1)
			says(t, compared(api.OpEq, said(1), slices.Concat(l, minus)), plain(), b, 1)
			says(t, compared(api.OpEq, slices.Concat(l, minus, minus), said(0)), plain(), b, 1)
			says(t, compared(api.OpEq, reckoned(api.OpAdd, slices.Concat(l, minus), said(0)), list(number(0))), plain(), b, 1)
		}
	}
}

// Each comparison of two numbers: both told by the frame, one of them, or none.
func TestComparisons(t *testing.T) {
	t.Parallel()
	for op := api.OpEq; op <= api.OpGe; op++ {
		whole := compared(op, said(0), said(1))
		g, under := lowered(t, whole, plain()), lowered(t, not(whole), plain())
		for _, x := range edges() {
			for _, y := range edges() {
				want := holds([]bool{false, x == y, x != y, x < y, x <= y, x > y, x >= y}[op])
				b := saying(x, y)
				comesTo(t, g, whole, plain(), 0, b, want)
				comesTo(t, under, whole, plain(), 1, b, 1-want)
				says(t, compared(op, said(0), list(number(y))), plain(), b, want)
				says(t, compared(op, list(number(x)), said(1)), plain(), b, want)
				says(t, compared(op, list(number(x)), list(number(y))), plain(), b, want)
			}
		}
	}
}

// leaning tells a number of leaves that leans to the left, or to the right.
func leaning(right bool, op int, leaves ...[]api.Node) []api.Node {
	out := leaves[0]
	for _, leaf := range leaves[1:] {
		if right {
			out = reckoned(op, leaf, out)
		} else {
			out = reckoned(op, out, leaf)
		}
	}
	return out
}

// halved tells a number of leaves in halves.
func halved(op int, leaves ...[]api.Node) []api.Node {
	if len(leaves) == 1 {
		return leaves[0]
	}
	half := len(leaves) / 2
	return reckoned(op, halved(op, leaves[:half]...), halved(op, leaves[half:]...))
}

// leaves tells so many numbers, each told by the frame, as light as may be or loads, with constants between.
func leaves(count, heavy int) [][]api.Node {
	var out [][]api.Node
	for i := range count {
		switch {
		case heavy > 0 && i%heavy == 0:
			out = append(out, said(uint32(i%3)))
		case i%5 == 4:
			out = append(out, list(number(uint32(i))))
		default:
			out = append(out, list(kind(api.NodeLen)))
		}
	}
	return out
}

// Numbers nested in each shape, as heavy as may be.
func TestNested(t *testing.T) {
	t.Parallel()
	frames := [][]byte{saying(1, 2, 3), saying(1<<31, 5, 1<<32-1), saying(1, 2), f()}
	var n tally
	for _, heavy := range []int{0, 8, 3, 1} {
		count := map[int]int{0: 374, 8: 240, 3: 180, 1: 92}[heavy]
		for op := api.OpAdd; op <= api.OpShr; op++ {
			for turn, l := range [][]api.Node{leaning(false, op, leaves(count, heavy)...), leaning(true, op, leaves(count, heavy)...), halved(op, leaves(count, heavy)...)} {
				value, _, e := mean.Value(l, plain(), 0, frames[0])
				if e != api.OK {
					t.Fatalf("%s is no number: %d", told(l), e)
				}
				n.agrees(t, compared(api.OpEq, l, list(number(value))), plain(), frames...)
				n.agrees(t, compared(api.OpNe, list(number(value)), l), plain(), frames[turn:]...)
			}
		}
	}
	n.enough(t, 20)
}

// Where halves are nested eight deep, with all in them told by the frame, no number needs more words.
func TestWords16(t *testing.T) {
	t.Parallel()
	lens := list(kind(api.NodeLen))
	for _, ops := range [][]int{{api.OpXor}, {api.OpSub}, {api.OpAdd, api.OpMul, api.OpSub}, {api.OpShl, api.OpOr, api.OpAdd}} {
		l := lens
		for depth := range 8 {
			other := l
			if depth%3 == 1 {
				other = slices.Concat(l, list(kind(api.NodeMinus)))
			}
			l = reckoned(ops[depth%len(ops)], l, other)
		}
		for size := 4; size < 40; size += 5 {
			b := behind(fromHex("ff03c021"), size)
			value, how, e := mean.Value(l, plain(), 0, b)
			if how != api.JudgeYes || e != api.OK {
				t.Fatalf("%d, %d", how, e)
			}
			says(t, compared(api.OpEq, l, list(number(value))), plain(), b, 1)
			says(t, compared(api.OpEq, list(number(value)), l), plain(), b, 1)
			says(t, compared(api.OpLe, reckoned(api.OpSub, l, lens), list(number(value-uint32(len(b))))), plain(), b, 1)
		}
	}
	// Both sides of a comparison need words, and so do indexes.
	half := lens
	for range 7 {
		half = reckoned(api.OpXor, half, half)
	}
	says(t, compared(api.OpEq, half, half), plain(), f(), 1)
	says(t, compared(api.OpEq, read(api.OfPPP, 2, half...), list(number(0xff03))), plain(), f(), 1)
	says(t, compared(api.OpEq, list(number(0xff03)), reckoned(api.OpOr, read(api.OfPPP, 2, half...), half)), plain(), f(), 1)
	says(t, compared(api.OpEq, reckoned(api.OpOr, half, read(api.OfIP, 1, half...)), list(number(0x45))), plain(), f(), 1)
}

// Loads in loads, and minuses, as deep as may be.
func TestDeep(t *testing.T) {
	t.Parallel()
	deep := func(count int, k api.Node, l ...api.Node) []api.Node { return slices.Concat(l, many(count, k)) }
	var n tally
	frames := [][]byte{f(), behind(f(), 100), saying(0, 0, 0), joined(fromHex("ff030021"), headerIP(5, 0, 1))}
	for _, l := range [][]api.Node{
		deep(124, load(api.OfIP, 1), number(1)), deep(124, load(api.OfIP, 1), number(9)), deep(124, load(api.OfPPP, 1), kind(api.NodeLen)), deep(124, load(api.OfPPP, 1), kind(api.NodeLen), number(1), arith(api.OpSub)),
		deep(1494, kind(api.NodeMinus), kind(api.NodeLen)), deep(1494, kind(api.NodeMinus), number(7)), deep(124, load(api.OfUDP, 1), number(0)),
	} {
		value, _, e := mean.Value(l, plain(), 0, f())
		if e != api.OK {
			t.Fatalf("%s is no number: %d", told(l), e)
		}
		n.agrees(t, compared(api.OpEq, l, list(number(value))), plain(), frames...)
		n.agrees(t, not(compared(api.OpEq, l, list(number(value)))), plain(), frames...)
	}
	n.enough(t, 4)
}
