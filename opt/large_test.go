package opt_test

import (
	"slices"
	"testing"

	"riddle/api"
	"riddle/opt"
)

func improve(t testing.TB, g []api.Block) []api.Block {
	t.Helper()
	h, e := opt.Improve(g)
	if e != api.OK {
		t.Fatalf("P17.1: %d: %+v", e, short(g))
	}
	return h
}

// row tells as many blocks as may be, each as it is told, the last ones as they are given.
func row(block func(n int) api.Block, last ...api.Block) []api.Block {
	out := make([]api.Block, api.MaxBlocks)
	ends := api.MaxBlocks - len(last)
	for n := range ends {
		out[n] = block(n)
	}
	copy(out[ends:], last)
	return out
}

// TestAsManyBlocks has graphs of MaxBlocks blocks.
func TestAsManyBlocks(t *testing.T) {
	t.Parallel()
	const end = api.MaxBlocks - 1
	b0, gt := k(api.LdAbsB, 0), k(api.JgtK, 5)
	some := few()[4:]
	for what, g := range map[string][]api.Block{
		"goes alone":                               row(func(n int) api.Block { return goes(n + 1) }, ret(6)),
		"goes with a code":                         row(func(n int) api.Block { return goes(n+1, k(api.AddK, 1)) }, retA()),
		"tests with one goal":                      row(func(n int) api.Block { return test(gt, n+1, n+1, k(api.LdLen, 0)) }, ret(6)),
		"blocks that no run comes to":              row(func(n int) api.Block { return ret(uint32(n)) }, ret(6)),
		"a go over all":                            row(func(n int) api.Block { return goes(end, b0) }, retA()),
		"tests of nothing, to be seen from behind": row(func(n int) api.Block { return test(gt, n+1, end, k(api.LdLen, 0)) }, goes(end, k(api.Tax, 0)), ret(5)),
		"loads, to be seen from behind":            row(func(n int) api.Block { return test(gt, n+1, end, b0) }, goes(end, b0), ret(0)),
		"loads that stay":                          row(func(n int) api.Block { return test(gt, n+1, end, b0) }, goes(end, b0), ret(3)),
		"tests of one thing":                       row(func(n int) api.Block { return test(k(api.JeqK, uint32(n)), end, n+1) }, ret(1), ret(0)),
		"tests of a length":                        row(func(n int) api.Block { return test(k(api.JeqK, uint32(n)), end, n+1, k(api.LdLen, 0)) }, ret(1), ret(0)),
		"tests of a scratch word":                  row(func(n int) api.Block { return test(k(api.JsetK, uint32(n)), end, n+1, k(api.LdMem, uint32(n%16))) }, ret(1), ret(0)),
		"two ways at each": row(func(n int) api.Block {
			if n%3 == 0 {
				return test(gt, n+1, n+2, k(api.LdAbsB, uint32(n%5)))
			}
			return goes(min(n/3*3+3, end), k(api.LdImm, uint32(n)))
		}, retA()),
		"constants that lead past tests": row(func(n int) api.Block {
			switch {
			case n == 0:
				return goes(1, k(api.LdxLen, 0))
			case n < 1000:
				return test(k(api.JgtX, 0), 1000, n+1, k(api.LdImm, uint32(n)))
			}
			return test(k(api.JeqK, uint32(n+5000)), end, n+1)
		}, ret(2), ret(1)),
	} {
		if len(g) != api.MaxBlocks {
			t.Fatalf("%s: %d blocks", what, len(g))
		}
		improved(t, what, g, some)
	}
	if h := improve(t, row(func(n int) api.Block { return test(gt, n+1, end, k(api.LdLen, 0)) }, goes(end, k(api.Tax, 0)), ret(5))); !same(h, list(ret(5))) {
		t.Errorf("tests of nothing: %+v", short(h))
	}
}

// stages tells a graph in which a test can be told only when the one of the stage ahead is: each turn of all passes frees one stage.
func stages(n int) []api.Block {
	fork, start := func(at int) int { return 2 * at }, func(at int) int { return 2*n + 1 + 2*at }
	meet, spoil := func(at int) int { return 4*n + 1 + at }, func(at int) int { return 5*n + 1 + at }
	ask, end := func(at int) int { return 6*n + 1 + 2*at }, 8*n+1
	out := make([]api.Block, end+1)
	for at := range n {
		out[fork(at)] = test(k(api.JeqX, 0), start(at), fork(at)+1, k(api.LdImm, uint32(4*at)))
		out[fork(at)+1] = test(k(api.JgtX, 0), start(at)+1, fork(at+1))
		out[start(at)], out[start(at)+1] = goes(meet(at), k(api.LdImm, 1)), goes(meet(at), k(api.LdImm, 2))
		// No run is told yes here; but while the word that is stored may be read, the ways that know it must come by.
		out[meet(at)] = test(k(api.JeqK, 3), spoil(at), ask(at), k(api.St, 1))
		out[spoil(at)] = goes(ask(min(at+1, n-1)), k(api.LdImm, 7), k(api.St, 0))
		out[ask(at)] = test(k(api.JeqK, 0), end, ask(at)+1, k(api.LdAbsB, 1), k(api.LdMem, 0))
		out[ask(at)+1] = retA(k(api.LdMem, 1))
	}
	// The last stage leads nowhere else: it would keep itself from being told.
	out[spoil(n-1)] = goes(end, k(api.LdImm, 7))
	out[fork(0)] = behind(out[fork(0)], k(api.LdxMsh, 0))
	out[fork(n)], out[end] = ret(9), ret(5)
	return out
}

// TestManyRounds: what each turn frees is found, however many there are.
func TestManyRounds(t *testing.T) {
	t.Parallel()
	for _, n := range []int{1, 2, 3, 10, 100, 450} {
		h := improved(t, "stages", stages(n), few())
		for _, b := range h {
			if slices.ContainsFunc(b.Code, func(i api.Insn) bool { return i.Code == api.St || i.Code == api.LdMem }) {
				t.Fatalf("%d stages: something is stored or read: %+v", n, b)
			}
		}
	}
}

// TestAsManyInstructions has graphs whose Codes have MaxProgram instructions.
func TestAsManyInstructions(t *testing.T) {
	t.Parallel()
	for _, i := range []api.Insn{k(api.LdImm, 3), k(api.LdAbsB, 2), k(api.AddK, 1), k(api.AddX, 0), k(api.St, 3), k(api.LdMem, 3), k(api.Neg, 0), k(api.LdIndB, 1), k(api.DivX, 0), k(api.XorX, 0)} {
		full := slices.Repeat([]api.Insn{i}, api.MaxProgram)
		full[0], full[1], full[2] = k(api.LdAbsB, 0), k(api.Tax, 0), k(api.LdAbsB, 1)
		for _, end := range []api.Insn{k(api.RetA, 0), k(api.RetK, 0), k(api.RetK, 8)} {
			improved(t, "one block", list(api.Block{Code: full, End: api.EndReturn, Last: end}), few()[5:])
		}
		improved(t, "three blocks", list(test(k(api.JgtK, 5), 1, 2, full[:9]...), goes(2, full[9:3000]...), retA(full[3000:]...)), few()[5:])
	}
	var mixed []api.Insn
	for n := range uint32(api.MaxProgram / 4) {
		mixed = append(mixed, k(api.LdAbsB, n%6), k(api.St, n%16), k(api.LdxMem, (n+3)%16), k(api.AddX, 0))
	}
	improved(t, "all sorts", list(retA(mixed...)), few()[5:])
}

// TestOneBlock has the smallest graphs.
func TestOneBlock(t *testing.T) {
	becomes(t, "a constant", list(ret(5)), ret(5))
	becomes(t, "nought", list(ret(0)), ret(0))
	becomes(t, "A, which is nought at first", list(retA()), ret(0))
	becomes(t, "a byte", list(retA(k(api.LdAbsB, 0))), retA(k(api.LdAbsB, 0)))
	becomes(t, "the length", list(retA(k(api.LdLen, 0))), retA(k(api.LdLen, 0)))
	becomes(t, "the length, twice", list(retA(k(api.LdLen, 0), k(api.LdxLen, 0), k(api.Txa, 0))), retA(k(api.LdLen, 0)))
}
