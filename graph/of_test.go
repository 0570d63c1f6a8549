package graph_test

import (
	"math"
	"testing"

	"riddle/api"
	"riddle/check"
	"riddle/graph"
)

func TestOfOneInstruction(t *testing.T) {
	expectOf(t, "RetK", program(t, "ret #9"), ret(9))
	expectOf(t, "RetA", program(t, "ret a"), retA())
	expectOf(t, "RetK of the greatest", []api.Insn{k(api.RetK, math.MaxUint32)}, ret(math.MaxUint32))
}

func TestOfStraightPrograms(t *testing.T) {
	expectOf(t, "one block", program(t, "ldb [0]\ntax\nret a"), retA(k(api.LdAbsB, 0), k(api.Tax, 0)))
	expectOf(t, "a return behind a return", program(t, "ret #1\nret #2\nret a"), ret(1), ret(2), retA())
	expectOf(t, "what no run comes to", program(t, "ret #1\ntax\ntxa\nret #2"), ret(1), ret(2, k(api.Tax, 0), k(api.Txa, 0)))
}

func TestOfJa(t *testing.T) {
	tax := k(api.Tax, 0)
	expectOf(t, "by 0", program(t, "ja 0\nret #4"), goes(1), ret(4))
	expectOf(t, "by 0 behind a Code", program(t, "tax\nja 0\nret #4"), goes(1, tax), ret(4))
	expectOf(t, "by 1", program(t, "ja 1\ntax\nret #4"), goes(2), goes(2, tax), ret(4))
	expectOf(t, "past a return", program(t, "ja 1\nret #3\nret #4"), goes(2), ret(3), ret(4))
	expectOf(t, "to a Ja", program(t, "ja 1\nja 0\nja 0\nret #4"), goes(2), goes(2), goes(3), ret(4))
	expectOf(t, "goals that meet", program(t, "ja 2\nja 1\nja 0\nret a"), goes(3), goes(3), goes(3), retA())
	expectOf(t, "one that no run comes to", program(t, "ret #1\nja 1\ntax\nret #2"), ret(1), goes(3), goes(3, tax), ret(2))
	expectOf(t, "into the middle of what no run comes to", program(t, "ret #1\nja 1\ntax\ntax\nret #2"), ret(1), goes(3), goes(3, tax), ret(2, tax))
}

func TestOfEachTest(t *testing.T) {
	for _, code := range inOrder(tests()) {
		for _, v := range []uint32{0, 7, math.MaxUint32} {
			last := k(code, v)
			if !tests()[code] {
				last.K = 0
			}
			p := []api.Insn{k(api.Tax, 0), {Code: code, Jt: 1, Jf: 0, K: v}, k(api.RetK, 1), k(api.RetK, 2)}
			expectOf(t, "Jt 1", p, test(last, 2, 1, k(api.Tax, 0)), ret(1), ret(2))
			p[1].Jt, p[1].Jf = 0, 1
			expectOf(t, "Jf 1", p, test(last, 1, 2, k(api.Tax, 0)), ret(1), ret(2))
			p[1].Jt, p[1].Jf = 1, 1
			expectOf(t, "both 1", p, test(last, 2, 2, k(api.Tax, 0)), ret(1), ret(2))
			p[1].Jt, p[1].Jf = 0, 0
			expectOf(t, "both 0", p, test(last, 1, 1, k(api.Tax, 0)), ret(1), ret(2))
		}
	}
}

// TestOfGoals have blocks begin within what else were one.
func TestOfGoals(t *testing.T) {
	tax, txa := k(api.Tax, 0), k(api.Txa, 0)
	expectOf(t, "goals in one row", program(t, "jgt #9 1 2\ntax\ntxa\ntax\nret a"),
		test(k(api.JgtK, 9), 2, 3), goes(2, tax), goes(3, txa), retA(tax))
	expectOf(t, "goals that meet", program(t, "jgt #9 0 2\njset #1 2 0\ntax\ntxa\nret a"),
		test(k(api.JgtK, 9), 1, 3), test(k(api.JsetK, 1), 4, 2), goes(3, tax), goes(4, txa), retA())
	expectOf(t, "a goal at a jump", program(t, "jeq #1 0 1\ntax\njeq #2 0 0\nret a"),
		test(k(api.JeqK, 1), 1, 2), goes(2, tax), test(k(api.JeqK, 2), 3, 3), retA())
	expectOf(t, "a goal that nothing but what no run comes to goes to", program(t, "ja 2\njeq #1 0 3\ntax\ntax\ntax\nret a"),
		goes(3), test(k(api.JeqK, 1), 2, 4), goes(3, tax), goes(4, tax, tax), retA())
}

// TestOfFarGoals: what a byte says at most, and what K says at most.
func TestOfFarGoals(t *testing.T) {
	p := make([]api.Insn, 257)
	p[0] = api.Insn{Code: api.JgeX, Jt: 255, Jf: 254, K: 3}
	p[256] = k(api.RetA, 0)
	expectOf(t, "a test", p, test(k(api.JgeX, 0), 3, 2), goes(2, p[1:255]...), goes(3, p[255]), retA())
	p = make([]api.Insn, api.MaxProgram)
	p[0] = k(api.Ja, api.MaxProgram-2)
	p[api.MaxProgram-1] = k(api.RetK, 5)
	expectOf(t, "a Ja", p, goes(2), goes(2, p[1:api.MaxProgram-1]...), ret(5))
	p[0] = k(api.Ja, 0)
	expectOf(t, "a Ja by 0", p, goes(1), ret(5, p[1:api.MaxProgram-1]...))
}

// TestOfKeepsCodesAsTheyAre, and bares the Last.
func TestOfKeepsCodesAsTheyAre(t *testing.T) {
	full := func(code uint16) api.Insn { return api.Insn{Code: code, Jt: 11, Jf: 12, K: 13} }
	for _, code := range inOrder(straights()) {
		i := full(code)
		expectOf(t, "ahead of a return", []api.Insn{i, full(api.RetA)}, retA(i))
		expectOf(t, "ahead of a Ja", []api.Insn{i, {Code: api.Ja, Jt: 5, Jf: 6}, full(api.RetK)}, goes(1, i), ret(13))
		expectOf(t, "ahead of a test", []api.Insn{i, {Code: api.JsetX, K: 9}, full(api.RetK)}, test(k(api.JsetX, 0), 1, 1, i), ret(13))
		expectOf(t, "ahead of the next block", []api.Insn{{Code: api.JeqK, Jt: 1, K: 9}, i, full(api.RetK)}, test(k(api.JeqK, 9), 2, 1), goes(2, i), ret(13))
	}
}

func TestOfMostBlocks(t *testing.T) {
	p := make([]api.Insn, api.MaxProgram)
	want := make([]api.Block, api.MaxBlocks)
	for at := range p {
		p[at], want[at] = k(api.RetK, uint32(at)), ret(uint32(at))
	}
	expectOf(t, "returns alone", p, want...)
	for at := range p[:api.MaxProgram-1] {
		p[at], want[at] = api.Insn{Code: api.JgtX}, test(k(api.JgtX, 0), at+1, at+1)
	}
	expectOf(t, "tests alone", p, want...)
}

func TestOfWhatIsRefused(t *testing.T) {
	tax, end := k(api.Tax, 0), k(api.RetA, 0)
	for _, p := range [][]api.Insn{
		{}, make([]api.Insn, api.MaxProgram+1), {k(8, 0), end}, {k(api.St, 16), end}, {k(api.LdMem, 16), end},
		{k(api.DivK, 0), end}, {k(api.LshK, 32), end}, {k(api.Ja, 1), end}, {k(api.Ja, math.MaxUint32), end},
		{{Code: api.JeqK, Jt: 1}, end}, {{Code: api.JeqX, Jf: 1}, end}, {tax}, {end, tax}, {end, k(api.Ja, 0)},
	} {
		if _, e := check.Check(p); e == api.OK {
			t.Fatalf("check takes %v", p)
		}
		if g, e := graph.Of(p); e != api.ErrGraphWrong || len(g) != 0 {
			t.Errorf("P15.4: %d instructions: %v, %d", len(p), g, e)
		}
	}
	long := append(make([]api.Insn, api.MaxProgram), end)
	if g, e := graph.Of(long); e != api.ErrGraphWrong || len(g) != 0 {
		t.Errorf("P15.4: one instruction too many: %d", e)
	}
	if g, e := graph.Of(long[1:]); e != api.OK || len(g) != 1 {
		t.Errorf("P15.4: as many as may be: %d", e)
	}
}
