package opt_test

import (
	"math"
	"slices"
	"testing"

	"riddle/api"
)

// fillings tells ways to fill X and A: with constants, with what the packet says, and with the same thing. X is filled first.
func fillings() (forX, forA [][]api.Insn) {
	for _, v := range []uint32{0, 1, 5, 31, 32, api.MaxPacket - 1, api.MaxPacket, math.MaxUint32} {
		forX = append(forX, []api.Insn{k(api.LdxImm, v)})
		forA = append(forA, []api.Insn{k(api.LdImm, v)})
	}
	forX = append(forX, []api.Insn{k(api.LdxLen, 0)}, []api.Insn{k(api.LdxMsh, 0)}, []api.Insn{k(api.LdAbsB, 1), k(api.Tax, 0)})
	forA = append(forA, []api.Insn{k(api.LdLen, 0)}, []api.Insn{k(api.LdAbsB, 0)}, []api.Insn{k(api.Txa, 0)}, []api.Insn{k(api.LdAbsB, 2), k(api.St, 3), k(api.AddK, 1)})
	return forX, forA
}

// endings tells blocks that show what the words hold: all of them, one of them, none.
func endings() []api.Block {
	return list(retA(sum()...), retA(), retA(k(api.Txa, 0)), retA(k(api.LdMem, 3)), ret(1), ret(0))
}

// behind tells a block with code ahead of its own.
func behind(b api.Block, code ...api.Insn) api.Block {
	b.Code = slices.Concat(code, b.Code)
	return b
}

// TestEachCode has each instruction behind each filling of A and X, with all ways to look at what came of it.
func TestEachCode(t *testing.T) {
	t.Parallel()
	forX, forA := fillings()
	packets := few()
	turn := 0
	for _, i := range each(straights()) {
		for _, x := range forX {
			for _, a := range forA {
				// Which of the packets, the endings and the scratch words come together goes round.
				turn++
				end := endings()[turn%6]
				keep := []api.Insn{k(api.St, 3), k(api.Stx, 3), k(api.St, 0), k(api.Stx, 15)}[turn/6%4]
				b := behind(end, slices.Concat(x, a, []api.Insn{keep, i})...)
				improved(t, "a code", list(b), [][]byte{packets[turn%len(packets)], packets[(turn/5)%len(packets)], packets[8]})
			}
		}
	}
}

// unknown fills words with what the packet says.
func unknown() []api.Insn {
	return []api.Insn{k(api.LdAbsB, 2), k(api.St, 3), k(api.LdAbsB, 1), k(api.St, 0), k(api.LdAbsB, 4), k(api.St, 15), k(api.LdxMsh, 0), k(api.LdAbsB, 3)}
}

// TestEachCodeByItself has each instruction with words that are nought, as all are at first, and with words of which nothing is known.
func TestEachCodeByItself(t *testing.T) {
	t.Parallel()
	all := each(straights())
	for n, i := range all {
		for _, end := range endings() {
			improved(t, "a code at first", list(behind(end, i)), few())
			improved(t, "a code behind the unknown", list(behind(end, slices.Concat(unknown(), []api.Insn{i})...)), few())
		}
		for m, second := range all {
			// The endings that read one word or none go round.
			for _, end := range list(endings()[0], endings()[1+(n+m)%5]) {
				improved(t, "two codes", list(behind(end, slices.Concat(unknown(), []api.Insn{i, second})...)), few()[8:9])
			}
		}
	}
}

// TestWhatIsNotLookedAt has numbers in instructions that these do not look at.
func TestWhatIsNotLookedAt(t *testing.T) {
	for _, i := range each(straights()) {
		i.Jt, i.Jf = 9, 200
		if straights()[i.Code] == nil {
			i.K = 77
		}
		for _, end := range endings() {
			improved(t, "a code", list(behind(end, i)), few())
			improved(t, "a code behind constants", list(behind(end, k(api.LdImm, 6), k(api.LdxImm, 3), i)), few())
			improved(t, "a code behind the unknown", list(behind(end, k(api.LdxMsh, 0), k(api.LdAbsB, 1), i, i)), few())
		}
	}
}

// TestEachTest has each question behind each filling, with goals that show the words.
func TestEachTest(t *testing.T) {
	t.Parallel()
	forX, forA := fillings()
	for _, q := range each(questions()) {
		for _, x := range forX {
			for _, a := range forA {
				code := slices.Concat(x, a)
				improved(t, "a test", list(test(q, 1, 2, code...), ret(1), ret(2)), few()[2:])
				improved(t, "a test that shows the words", list(test(q, 1, 2, append(code, k(api.St, 3))...), retA(sum()...), retA(k(api.AddK, 1))), few()[6:])
			}
		}
	}
}

// TestWhatATestTeaches has a second test behind each goal of a first one, of the same word, of a copy or of another one.
func TestWhatATestTeaches(t *testing.T) {
	t.Parallel()
	all := each(questions())
	ahead := []api.Insn{k(api.LdAbsB, 1), k(api.Tax, 0), k(api.LdAbsB, 0), k(api.St, 3)}
	for _, first := range all {
		for _, second := range all {
			for _, between := range [][]api.Insn{nil, {k(api.LdMem, 3)}, {k(api.Txa, 0)}, {k(api.LdxMem, 3)}, {k(api.AddK, 1)}, {k(api.LdLen, 0)}} {
				g := list(test(first, 1, 2, ahead...), test(second, 3, 4, between...), test(second, 5, 6, between...), ret(3), ret(4), ret(5), retA(sum()...))
				improved(t, "two tests", g, few()[7:])
			}
		}
	}
	equal := func(q api.Insn, code ...api.Insn) []api.Block {
		return list(test(q, 1, 2, code...), retA(sum()...), ret(0))
	}
	becomes(t, "a copy of a word that a test tells", list(test(k(api.JeqK, 5), 1, 2, k(api.LdAbsB, 0), k(api.St, 7)), retA(k(api.LdMem, 7), k(api.AddK, 1)), ret(2)),
		test(k(api.JeqK, 5), 1, 2, k(api.LdAbsB, 0)), ret(6), ret(2))
	becomes(t, "a word of X that a test tells", list(test(k(api.JeqX, 0), 1, 2, k(api.LdxMsh, 0), k(api.Stx, 7), k(api.LdImm, 20)), retA(k(api.LdMem, 7), k(api.AddK, 1)), ret(2)),
		test(k(api.JeqX, 0), 1, 2, k(api.LdxMsh, 0), k(api.LdImm, 20)), ret(21), ret(2))
	improved(t, "A is X", equal(k(api.JeqX, 0), k(api.LdAbsB, 1), k(api.Tax, 0), k(api.LdAbsB, 0)), append(few(), []byte{6, 6}))
	improved(t, "A is X, a constant", equal(k(api.JeqX, 0), k(api.LdxImm, 5), k(api.LdAbsB, 0)), few())
	improved(t, "a constant is X", equal(k(api.JeqX, 0), k(api.LdxMsh, 0), k(api.Stx, 3), k(api.LdImm, 20)), few())
	improved(t, "the length is a constant", equal(k(api.JeqK, 4), k(api.LdxLen, 0), k(api.LdLen, 0)), few())
}

// TestTwoWays has two ways into a block that know the same, different things or nothing.
func TestTwoWays(t *testing.T) {
	t.Parallel()
	fillings := [][]api.Insn{
		{k(api.LdImm, 5), k(api.LdxImm, 2)}, {k(api.LdImm, 5), k(api.LdxImm, 3)}, {k(api.LdImm, 0), k(api.LdxImm, 0)}, {k(api.LdImm, 9), k(api.Tax, 0)},
		{k(api.LdAbsB, 1), k(api.LdxImm, 2)}, {k(api.LdAbsB, 1), k(api.Tax, 0)}, {k(api.LdxLen, 0), k(api.LdLen, 0)}, {k(api.LdxMsh, 1), k(api.LdImm, 5), k(api.St, 3)}, {k(api.LdMem, 3), k(api.LdxMem, 4)}, nil,
	}
	codes, asked := each(straights()), each(questions())
	some := [][]byte{{5, 3, 0}, {7, 200, 3, 4, 5, 6, 7, 8, 9, 10, 11}, {6, 1, 255, 2}}
	turn := 0
	for _, one := range fillings {
		for _, two := range fillings {
			for _, i := range codes {
				turn++
				g := list(
					test(k(api.JgtK, 5), 1, 2, k(api.LdAbsB, 2), k(api.St, 3), k(api.LdAbsB, 0)),
					goes(3, one...), goes(3, two...), behind(endings()[turn%6], i),
				)
				improved(t, "two ways", g, some)
				g[3] = test(asked[turn%len(asked)], 4, 5, i)
				improved(t, "two ways to a test", append(g, retA(sum()...), ret(7)), some)
			}
		}
	}
	unequal := func(one, two uint32, end api.Block) []api.Block {
		return list(test(k(api.JgtK, 5), 1, 2, k(api.LdAbsB, 0)), goes(3, k(api.LdImm, one), k(api.St, 1)), goes(3, k(api.LdImm, two), k(api.St, 1)), end)
	}
	becomes(t, "both know the same", unequal(4, 4, retA(k(api.LdMem, 1), k(api.AddK, 3))), ret(7, k(api.LdAbsB, 0)))
	becomes(t, "they know different words", unequal(4, 6, retA(k(api.LdMem, 1))),
		test(k(api.JgtK, 5), 1, 2, k(api.LdAbsB, 0)), goes(3, k(api.LdImm, 4)), goes(3, k(api.LdImm, 6)), retA())
	becomes(t, "each leads past the test", append(unequal(4, 6, test(k(api.JeqK, 4), 4, 5)), ret(8), ret(9)), test(k(api.JgtK, 5), 1, 2, k(api.LdAbsB, 0)), ret(8), ret(9))
}

// TestScratchOnOneWay has words that are stored on one way and read on another.
func TestScratchOnOneWay(t *testing.T) {
	b0, gt := k(api.LdAbsB, 0), k(api.JgtK, 5)
	for cell := range uint32(api.MaxScratch) {
		st, stx, ld, ldx := k(api.St, cell), k(api.Stx, cell), k(api.LdMem, cell), k(api.LdxMem, cell)
		for _, g := range [][]api.Block{
			list(test(gt, 1, 2, b0), goes(3, k(api.AddK, 1), st), goes(3, k(api.MulK, 2)), retA(ld)),
			list(test(gt, 1, 2, b0, st), retA(ld), retA(k(api.LdLen, 0))),
			list(test(gt, 1, 2, b0), ret(9, st), retA(ld)),
			list(test(gt, 1, 2, b0, k(api.Tax, 0), st), goes(3, k(api.LdxImm, 4), stx), goes(3, k(api.LdxLen, 0)), test(k(api.JeqX, 0), 4, 5, ldx), retA(ld), retA(k(api.Txa, 0))),
			list(test(gt, 1, 2, b0, st, k(api.AddK, 1)), goes(2, st), retA(ld)),
			list(test(gt, 1, 2, b0, st, k(api.AddK, 1), st), retA(ld), retA()),
			list(test(gt, 1, 2, b0, ld, st), goes(3, k(api.LdAbsB, 1), st), goes(3), retA(ldx, k(api.AddX, 0))),
			list(test(gt, 1, 2, b0), goes(3, k(api.LdImm, 0), st), goes(3, k(api.LdImm, 3)), test(k(api.JeqK, 0), 4, 5, ld), ret(1), ret(2)),
		} {
			improved(t, "a word on one way", g, few())
		}
	}
	// All sixteen words are in use at once.
	fill, read := []api.Insn{b0}, []api.Insn{k(api.LdMem, 0)}
	for cell := range uint32(api.MaxScratch) {
		fill = append(fill, k(api.MulK, 3), k(api.AddK, cell), k(api.St, cell))
		read = append(read, k(api.MulK, 7), k(api.LdxMem, cell), k(api.XorX, 0))
	}
	improved(t, "all words", list(test(gt, 1, 2, fill...), goes(2, k(api.St, 9), k(api.St, 0)), retA(read...)), few())
}
