package graph_test

import (
	"math"
	"slices"
	"strconv"
	"testing"

	"riddle/api"
	"riddle/graph"
)

func TestNumberOfBlocks(t *testing.T) {
	for _, n := range []int{1, 2, api.MaxBlocks - 1, api.MaxBlocks} {
		expectCheck(t, "as many as may be", row(n, 0, ret(0)), 0, api.OK)
	}
	for _, n := range []int{api.MaxBlocks + 1, api.MaxBlocks + 2, 3 * api.MaxBlocks} {
		expectCheck(t, "too many", row(n, 0, ret(0)), api.MaxBlocks, api.ErrGraphMany)
	}
	// Too many blocks count ahead of what is wrong in the first one.
	for _, b := range wrongs() {
		expectCheck(t, "too many, and a wrong one", row(api.MaxBlocks+1, 0, b.block), api.MaxBlocks, api.ErrGraphMany)
	}
}

func TestNumberOfInstructions(t *testing.T) {
	code := make([]api.Insn, api.MaxProgram+1)
	most := code[:api.MaxProgram]
	one := code[:1]
	expectCheck(t, "all in one", list(ret(0, most...)), 0, api.OK)
	expectCheck(t, "one more in one", list(ret(0, code...)), 0, api.ErrGraphMany)
	expectCheck(t, "all in the last", list(goes(1), ret(0, most...)), 0, api.OK)
	expectCheck(t, "one more in the last", list(goes(1), ret(0, code...)), 1, api.ErrGraphMany)
	expectCheck(t, "one behind all", list(goes(1, most...), goes(2), ret(0, one...)), 2, api.ErrGraphMany)
	expectCheck(t, "all behind one", list(goes(1, one...), goes(2, most...), ret(0, one...)), 1, api.ErrGraphMany)
	expectCheck(t, "halves", list(goes(1, code[:2048]...), ret(0, code[:2048]...)), 0, api.OK)
	expectCheck(t, "halves and one", list(goes(1, code[:2048]...), ret(0, code[:2049]...)), 1, api.ErrGraphMany)
	expectCheck(t, "in blocks that no run comes to", list(ret(0), ret(0, most...), ret(0, one...)), 2, api.ErrGraphMany)
	each := make([]api.Block, api.MaxBlocks)
	for at := range each {
		each[at] = ret(0, one...)
	}
	expectCheck(t, "one in each", each, 0, api.OK)
	each[17] = ret(0, code[:2]...)
	expectCheck(t, "one in each, and one more", each, api.MaxBlocks-1, api.ErrGraphMany)
	each[17] = ret(0, code[:3]...)
	expectCheck(t, "one in each, and two more", each, api.MaxBlocks-2, api.ErrGraphMany)
}

// TestAFaultInALongCode has the one wrong instruction at each end, and where a program's length ends.
func TestAFaultInALongCode(t *testing.T) {
	for _, wrong := range []api.Insn{k(api.St, 16), k(api.DivK, 0), k(api.RshK, 32), k(8, 0), k(api.Ja, 0), k(api.JeqX, 0), k(api.RetA, 0)} {
		for _, at := range []int{0, 1, 2047, 2048, 4093, 4094, 4095} {
			code := make([]api.Insn, api.MaxProgram)
			code[at] = wrong
			expectCheck(t, "a long Code", list(goes(1), ret(0, code...)), 1, api.ErrGraphCode)
		}
	}
}

// TestEachCodeInACode asks all numbers that a code may be.
func TestEachCodeInACode(t *testing.T) {
	known := straights()
	for code := range math.MaxUint16 + 1 {
		b := list(ret(0, k(uint16(code), 1)))
		_, fits := known[uint16(code)]
		want := api.OK
		if !fits {
			want = api.ErrGraphCode
		}
		if at, e := graph.Check(b); at != 0 || e != want {
			t.Errorf("P15.1: code %#x: %d, %d; want %d", code, at, e, want)
		}
	}
}

func TestEachKInACode(t *testing.T) {
	fits := map[sort]func(v uint32) bool{
		free:   func(uint32) bool { return true },
		anyK:   func(uint32) bool { return true },
		cell:   func(v uint32) bool { return v < 16 },
		parts:  func(v uint32) bool { return v != 0 },
		shifts: func(v uint32) bool { return v < 32 },
	}
	known := straights()
	for _, code := range inOrder(known) {
		for _, v := range []uint32{0, 1, 15, 16, 17, 31, 32, 33, 255, 256, 1 << 31, math.MaxUint32} {
			want := api.OK
			if !fits[known[code]](v) {
				want = api.ErrGraphCode
			}
			what := strconv.Itoa(int(code)) + " of " + strconv.Itoa(int(v))
			expectPlaces(t, what, goes, api.Insn{Code: code, K: v}, want)
			// What an instruction of a Code does not look at does not matter there.
			expectPlaces(t, what+" with Jt and Jf", goes, api.Insn{Code: code, Jt: 255, Jf: 7, K: v}, want)
		}
	}
}

// expectPlaces has the instruction at each end of a Code, in the first block, in a later one and in the last but one.
func expectPlaces(t *testing.T, what string, make func(int, ...api.Insn) api.Block, i api.Insn, want api.Errno) {
	t.Helper()
	for _, at := range []int{0, 2, 3} {
		place := at
		if want == api.OK {
			place = 0
		}
		expectCheck(t, what, row(5, at, make(at+1, i)), place, want)
		expectCheck(t, what, row(5, at, make(at+1, k(api.Tax, 0), i)), place, want)
		expectCheck(t, what, row(5, at, make(at+1, i, k(api.Tax, 0))), place, want)
	}
}

// TestEachCodeAsLast asks all numbers that a code may be, of each end.
func TestEachCodeAsLast(t *testing.T) {
	fits := map[int]func(code uint16) bool{
		api.EndReturn: func(code uint16) bool { _, ok := returns()[code]; return ok },
		api.EndGo:     func(code uint16) bool { return code == 0 },
		api.EndTest:   func(code uint16) bool { _, ok := tests()[code]; return ok },
	}
	for _, end := range []int{api.EndReturn, api.EndGo, api.EndTest} {
		for code := range math.MaxUint16 + 1 {
			b := api.Block{End: end, Last: k(uint16(code), 0), Yes: 1, No: 1}
			if end == api.EndReturn {
				b.Yes = 0
			}
			if end != api.EndTest {
				b.No = 0
			}
			want := api.OK
			if !fits[end](uint16(code)) {
				want = api.ErrGraphEnd
			}
			if at, e := graph.Check(list(b, ret(0))); at != 0 || e != want {
				t.Errorf("P15.1: end %d, code %#x: %d, %d; want %d", end, code, at, e, want)
			}
		}
	}
}

func TestEachEnd(t *testing.T) {
	for _, end := range []int{math.MinInt, -1, 0, 4, 5, 256 + api.EndReturn, math.MaxInt} {
		for _, last := range []api.Insn{{}, k(api.RetK, 0), k(api.JeqK, 0), k(api.Ja, 0)} {
			b := api.Block{End: end, Last: last}
			expectCheck(t, "no end at all", list(b), 0, api.ErrGraphEnd)
			expectCheck(t, "no end at all, later", row(4, 2, b), 2, api.ErrGraphEnd)
			b.Yes, b.No = 1, 1
			expectCheck(t, "no end at all, with goals", list(b, ret(0)), 0, api.ErrGraphEnd)
		}
	}
}

// lasts tells the ends that may be, each in a block that may stand ahead of the last two of a graph.
func lasts(next int) []api.Block {
	out := list(ret(0), ret(7), ret(math.MaxUint32), retA(), goes(next), goes(next+1))
	for _, code := range inOrder(tests()) {
		out = append(out, test(k(code, 0), next, next+1), test(k(code, 0), next, next))
		if tests()[code] {
			out = append(out, test(k(code, 1), next+1, next), test(k(code, math.MaxUint32), next, next+1))
		}
	}
	return out
}

func TestEndsThatMayBe(t *testing.T) {
	for at := range 4 {
		for _, b := range lasts(at + 1) {
			expectCheck(t, "an end", row(6, at, b), 0, api.OK)
		}
	}
}

// TestWhatALastMayNotHave lets one field after the other be what it may not.
func TestWhatALastMayNotHave(t *testing.T) {
	for at := range 4 {
		for _, b := range lasts(at + 1) {
			wrong := func(what string, change func(b *api.Block)) {
				c := b
				change(&c)
				expectCheck(t, what, row(6, at, c), at, api.ErrGraphEnd)
			}
			for _, v := range []uint8{1, 128, 255} {
				wrong("Jt", func(b *api.Block) { b.Last.Jt = v })
				wrong("Jf", func(b *api.Block) { b.Last.Jf = v })
			}
			for _, v := range []int{1, -1, at + 1, 5, math.MinInt, math.MaxInt} {
				if b.End == api.EndReturn {
					wrong("Yes of a return", func(b *api.Block) { b.Yes = v })
				}
				if b.End != api.EndTest {
					wrong("No of a return or a go", func(b *api.Block) { b.No = v })
				}
			}
			if looks := returns()[b.Last.Code] || tests()[b.Last.Code]; !looks {
				wrong("K", func(b *api.Block) { b.Last.K = 1 })
				wrong("K", func(b *api.Block) { b.Last.K = math.MaxUint32 })
			}
		}
	}
}

func TestGoals(t *testing.T) {
	const n = 6
	for at := range n - 1 {
		for goal := -2; goal < n+2; goal++ {
			place, want := 0, api.OK
			if goal <= at || goal >= n {
				place, want = at, api.ErrGraphGoal
			}
			expectCheck(t, "a go", row(n, at, goes(goal)), place, want)
			expectCheck(t, "the first goal of a test", row(n, at, test(k(api.JgtK, 3), goal, n-1)), place, want)
			expectCheck(t, "the second goal of a test", row(n, at, test(k(api.JsetX, 0), at+1, goal)), place, want)
			expectCheck(t, "both goals of a test", row(n, at, test(k(api.JsetX, 0), goal, goal)), place, want)
		}
	}
	for _, goal := range []int{math.MinInt, -1 << 32, 1 << 32, math.MaxInt} {
		expectCheck(t, "a far goal", list(goes(goal), ret(0)), 0, api.ErrGraphGoal)
		expectCheck(t, "a far goal", list(test(k(api.JeqK, 0), goal, 1), ret(0)), 0, api.ErrGraphGoal)
		expectCheck(t, "a far goal", list(test(k(api.JeqK, 0), 1, goal), ret(0)), 0, api.ErrGraphGoal)
	}
}

// TestLastBlock: behind it there is nothing to go to.
func TestLastBlock(t *testing.T) {
	for n := 1; n < 5; n++ {
		expectCheck(t, "a return", row(n, n-1, retA()), 0, api.OK)
		for goal := -1; goal < 6; goal++ {
			expectCheck(t, "a go", row(n, n-1, goes(goal)), n-1, api.ErrGraphGoal)
			expectCheck(t, "a test", row(n, n-1, test(k(api.JeqK, 0), goal, goal)), n-1, api.ErrGraphGoal)
		}
	}
	most := row(api.MaxBlocks, 0, goes(api.MaxBlocks-1))
	expectCheck(t, "the farthest goal", most, 0, api.OK)
	most[0] = goes(api.MaxBlocks)
	expectCheck(t, "one farther", most, 0, api.ErrGraphGoal)
}

// wrong is a block with one thing wrong with it, wherever it stands.
type wrong struct {
	e     api.Errno
	block api.Block
}

// wrongs stand in the order in which their errors count.
func wrongs() []wrong {
	return []wrong{
		{api.ErrGraphMany, ret(0, make([]api.Insn, api.MaxProgram+1)...)},
		{api.ErrGraphCode, ret(0, k(api.ModK, 0))},
		{api.ErrGraphEnd, api.Block{End: api.EndReturn, Last: k(api.RetA, 1)}},
		{api.ErrGraphGoal, goes(-1)},
	}
}

func TestTheFirstWrongBlockCounts(t *testing.T) {
	for _, first := range wrongs() {
		for _, second := range wrongs() {
			for _, at := range []int{0, 1, 4} {
				for _, then := range []int{at + 1, 5} {
					g := row(6, at, first.block)
					g[then] = second.block
					expectCheck(t, "two wrong blocks", g, at, first.e)
				}
			}
		}
	}
}

func TestTheFirstErrorOfABlockCounts(t *testing.T) {
	long := make([]api.Insn, api.MaxProgram+1)
	bad := slices.Clone(long)
	bad[api.MaxProgram] = k(api.Ja, 0)
	unknown := k(9, 0)
	for _, at := range []int{0, 1, 3} {
		expectCheck(t, "Many and Code", row(4, at, ret(0, bad...)), at, api.ErrGraphMany)
		expectCheck(t, "Many and End", row(4, at, api.Block{Code: long}), at, api.ErrGraphMany)
		expectCheck(t, "Many and Goal", row(4, at, goes(at, long...)), at, api.ErrGraphMany)
		expectCheck(t, "all four", row(4, at, api.Block{Code: bad, End: api.EndGo, No: 9}), at, api.ErrGraphMany)
		expectCheck(t, "Code and End", row(4, at, api.Block{Code: []api.Insn{unknown}}), at, api.ErrGraphCode)
		expectCheck(t, "Code and Goal", row(4, at, goes(at, unknown)), at, api.ErrGraphCode)
		expectCheck(t, "Code, End and Goal", row(4, at, test(k(api.Ja, 0), at, 9, unknown)), at, api.ErrGraphCode)
		expectCheck(t, "End and Goal of a test", row(4, at, test(k(api.JeqX, 1), at, at)), at, api.ErrGraphEnd)
		expectCheck(t, "End and Goal of a go", row(4, at, api.Block{End: api.EndGo, Yes: at, No: 1}), at, api.ErrGraphEnd)
	}
}

// TestABlockThatNoRunComesTo is asked like any other one.
func TestABlockThatNoRunComesTo(t *testing.T) {
	for _, w := range wrongs() {
		expectCheck(t, "behind a return", list(ret(0), w.block, ret(0)), 1, w.e)
		expectCheck(t, "behind a go", list(goes(2), w.block, ret(0)), 1, w.e)
	}
}
