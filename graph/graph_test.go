package graph_test

import (
	"reflect"
	"slices"
	"testing"

	"riddle/api"
	"riddle/asm"
	"riddle/graph"
)

// what chapters 2 and 4 say of a code: whether it looks at K, and what of it.
type sort int

const (
	free   sort = iota // looks at no K
	anyK               // any K will do
	cell               // K names a word
	parts              // K divides
	shifts             // K shifts
)

// straights tells the codes that may stand in a Code.
func straights() map[uint16]sort {
	return map[uint16]sort{
		api.LdImm: anyK, api.LdAbsW: anyK, api.LdAbsH: anyK, api.LdAbsB: anyK,
		api.LdIndW: anyK, api.LdIndH: anyK, api.LdIndB: anyK, api.LdMem: cell, api.LdLen: free,
		api.LdxImm: anyK, api.LdxMem: cell, api.LdxLen: free, api.LdxMsh: anyK,
		api.St: cell, api.Stx: cell,
		api.AddK: anyK, api.AddX: free, api.SubK: anyK, api.SubX: free, api.MulK: anyK, api.MulX: free,
		api.DivK: parts, api.DivX: free, api.ModK: parts, api.ModX: free,
		api.OrK: anyK, api.OrX: free, api.AndK: anyK, api.AndX: free, api.XorK: anyK, api.XorX: free,
		api.LshK: shifts, api.LshX: free, api.RshK: shifts, api.RshX: free,
		api.Neg: free, api.Tax: free, api.Txa: free,
	}
}

// returns and tests tell the codes that may be Last of a return and of a test, and whether they look at K.
func returns() map[uint16]bool { return map[uint16]bool{api.RetK: true, api.RetA: false} }

func tests() map[uint16]bool {
	return map[uint16]bool{
		api.JeqK: true, api.JeqX: false, api.JgtK: true, api.JgtX: false,
		api.JgeK: true, api.JgeX: false, api.JsetK: true, api.JsetX: false,
	}
}

// inOrder tells the keys of a map, the least one first.
func inOrder[V any](m map[uint16]V) []uint16 {
	var out []uint16
	for code := range m {
		out = append(out, code)
	}
	slices.Sort(out)
	return out
}

func k(code uint16, v uint32) api.Insn { return api.Insn{Code: code, K: v} }

func ret(v uint32, code ...api.Insn) api.Block {
	return api.Block{Code: code, End: api.EndReturn, Last: k(api.RetK, v)}
}

func retA(code ...api.Insn) api.Block {
	return api.Block{Code: code, End: api.EndReturn, Last: k(api.RetA, 0)}
}

func goes(to int, code ...api.Insn) api.Block {
	return api.Block{Code: code, End: api.EndGo, Yes: to}
}

func test(last api.Insn, yes, no int, code ...api.Insn) api.Block {
	return api.Block{Code: code, End: api.EndTest, Last: last, Yes: yes, No: no}
}

func list(g ...api.Block) []api.Block { return g }

// row is a graph of n blocks, each of which goes on to the next one, with b as the one at the place at.
func row(n, at int, b api.Block) []api.Block {
	out := make([]api.Block, n)
	for j := range out {
		out[j] = goes(j+1, k(api.Tax, 0))
	}
	out[n-1] = ret(0)
	out[at] = b
	return out
}

func program(t *testing.T, text string) []api.Insn {
	t.Helper()
	p, place, e := asm.Parse(text)
	if e != api.OK {
		t.Fatalf("%q: %d at %d", text, e, place)
	}
	return p
}

// same holds graphs against each other, with nil and empty Codes as one.
func same(one, two []api.Block) bool {
	return slices.EqualFunc(one, two, func(a, b api.Block) bool {
		return slices.Equal(a.Code, b.Code) && a.End == b.End && a.Last == b.Last && a.Yes == b.Yes && a.No == b.No
	})
}

func short(g []api.Block) []api.Block { return g[:min(len(g), 8)] }

// expectCheck asks Check, and all calls that need a graph which is taken.
func expectCheck(t *testing.T, what string, g []api.Block, place int, want api.Errno) {
	t.Helper()
	if at, e := graph.Check(g); at != place || e != want {
		t.Errorf("P15.1: %s: %d, %d; want %d, %d: %+v", what, at, e, place, want, short(g))
	}
	wrong := api.OK
	if want != api.OK {
		wrong = api.ErrGraphWrong
	}
	size, e := graph.Size(g)
	measure, f := graph.Measure(g)
	reach, h := graph.Reach(g)
	verdict, i := graph.Run(g, nil)
	if e != wrong || f != wrong || h != wrong || i != wrong {
		t.Errorf("P15.2, P15.3: %s: %d, %d, %d, %d; want %d", what, e, f, h, i, wrong)
	}
	if wrong != api.OK && (size != 0 || measure != 0 || len(reach) != 0 || verdict != api.Verdict{}) {
		t.Errorf("R2: %s: %d, %d, %v, %+v beside an error", what, size, measure, reach, verdict)
	}
}

func expectRun(t *testing.T, what string, g []api.Block, packet []byte, want api.Verdict) {
	t.Helper()
	if v, e := graph.Run(g, packet); e != api.OK || v != want {
		t.Errorf("P15.2: %s: %+v, %d; want %+v", what, v, e, want)
	}
}

func expectOf(t *testing.T, what string, p []api.Insn, want ...api.Block) {
	t.Helper()
	if g, e := graph.Of(p); e != api.OK || !same(g, want) {
		t.Errorf("P15.4: %s: %+v, %d; want %+v", what, g, e, want)
	}
}

func TestExamplesOfTheChapter(t *testing.T) {
	three := list(test(k(api.JeqK, 0), 1, 2), ret(0), ret(0))
	expectCheck(t, "one block", list(ret(5)), 0, api.OK)
	expectCheck(t, "none", nil, 0, api.ErrGraphEmpty)
	expectCheck(t, "go to 0", list(goes(0)), 0, api.ErrGraphGoal)
	expectCheck(t, "Ja in a Code", list(ret(0, k(api.Ja, 0))), 0, api.ErrGraphCode)
	expectCheck(t, "RetK with Jt 1", list(api.Block{End: api.EndReturn, Last: api.Insn{Code: api.RetK, Jt: 1}}), 0, api.ErrGraphEnd)
	expectCheck(t, "a test", three, 0, api.OK)
	if size, e := graph.Size(three); size != 3 || e != api.OK {
		t.Errorf("P15.3: Size %d, %d", size, e)
	}
	if measure, e := graph.Measure(three); measure != 5 || e != api.OK {
		t.Errorf("P15.3: Measure %d, %d", measure, e)
	}
	expectOf(t, "a test", program(t, "ldb [0]\njeq #7 1 0\nret #0\nret #1"),
		test(k(api.JeqK, 7), 2, 1, k(api.LdAbsB, 0)), ret(0), ret(1))
	expectOf(t, "a Ja", program(t, "ja 0\nret #4"), goes(1), ret(4))
}

func TestNilAndEmptyAreOne(t *testing.T) {
	expectCheck(t, "nil", nil, 0, api.ErrGraphEmpty)
	expectCheck(t, "empty", []api.Block{}, 0, api.ErrGraphEmpty)
	expectCheck(t, "an empty Code", list(api.Block{Code: []api.Insn{}, End: api.EndReturn, Last: k(api.RetA, 0)}), 0, api.OK)
	for _, packet := range [][]byte{nil, {}} {
		expectRun(t, "no bytes", list(retA(k(api.LdLen, 0))), packet, api.Verdict{Steps: 2})
	}
	for _, p := range [][]api.Insn{nil, {}} {
		if g, e := graph.Of(p); e != api.ErrGraphWrong || len(g) != 0 {
			t.Errorf("P15.4: of nothing: %v, %d", g, e)
		}
	}
}

// TestSameEachTime: nothing hangs on what was asked for ahead.
func TestSameEachTime(t *testing.T) {
	p := program(t, "ldb [0]\nst M[1]\njgt #9 0 1\nja 1\ntax\nldx M[1]\nadd x\nret a")
	first, _ := graph.Of(p)
	for range 3 {
		g, e := graph.Of(p)
		if e != api.OK || !reflect.DeepEqual(g, first) {
			t.Errorf("R4: %+v, then %+v", first, g)
		}
		expectRun(t, "again", g, []byte{21}, api.Verdict{Value: 42, Steps: 6})
		expectRun(t, "a fault", g, nil, api.Verdict{Fault: api.FaultLoad, Steps: 1})
	}
}
