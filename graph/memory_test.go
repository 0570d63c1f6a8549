package graph_test

import (
	"slices"
	"sync"
	"testing"

	"riddle/api"
	"riddle/graph"
)

// deep copies a graph with its Codes.
func deep(g []api.Block) []api.Block {
	out := slices.Clone(g)
	for at := range out {
		out[at].Code = slices.Clone(out[at].Code)
	}
	return out
}

// TestHandedInStays has spare room behind each list that, if it were looked at, would turn the answer, and, if it were written into, would show it.
func TestHandedInStays(t *testing.T) {
	code := []api.Insn{k(api.LdAbsB, 1), k(api.AddK, 1), k(api.Ja, 9), k(8, 0)}
	room := list(test(k(api.JgtK, 5), 2, 1, code[:2]...), ret(1), retA(code[1:2]...), api.Block{End: 9}, goes(0))
	packet := []byte{1, 9, 3, 4}
	room[0].Code = code[:2]
	codeWas, roomWas, packetWas := slices.Clone(code), deep(room), slices.Clone(packet)
	g := room[:3]
	expectCheck(t, "spare room", g, 0, api.OK)
	expectRun(t, "spare room", g, packet[:2], returned(11, 5))
	expectRun(t, "a byte behind the packet", g, packet[:1], failed(api.FaultLoad, 1))
	expectReach(t, "spare room", g, "111")
	expectCounts(t, "spare room", g, 6, 8)
	expectCheck(t, "a goal in the spare room", room[:2], 0, api.ErrGraphGoal)
	if !slices.Equal(code, codeWas) || !same(room, roomWas) || !slices.Equal(packet, packetWas) {
		t.Errorf("R3: what was handed in was changed: %v, %v, % x", code, room, packet)
	}
	long := make([]byte, api.MaxPacket+1)
	expectRun(t, "a long packet's spare room", list(ret(3)), long[:api.MaxPacket], returned(3, 1))
}

func TestTheProgramStays(t *testing.T) {
	room := []api.Insn{
		{Code: api.JsetX, Jt: 1, Jf: 2, K: 9}, {Code: api.Tax, Jt: 3, K: 4}, {Code: api.Txa, K: 1}, {Code: api.RetA, Jt: 1, K: 7},
		k(api.RetK, 77), k(8, 0), k(api.Ja, 99),
	}
	was := slices.Clone(room)
	g, e := graph.Of(room[:4])
	if e != api.OK || len(g) != 4 {
		t.Fatalf("P15.4: %v, %d", g, e)
	}
	scribble(g)
	if !slices.Equal(room, was) {
		t.Errorf("R3: the program was changed: %v", room)
	}
	if g, e := graph.Of(room[:3]); e != api.ErrGraphWrong || len(g) != 0 {
		t.Errorf("R3: a return that lies behind the program: %v, %d", g, e)
	}
}

// scribble writes into all memory of a graph, what lies behind the Codes with it.
func scribble(g []api.Block) {
	for at := range g {
		whole := g[at].Code[:cap(g[at].Code)]
		for j := range whole {
			whole[j] = k(api.LdxLen, 99)
		}
		_ = append(g[at].Code, k(api.Neg, 98))
	}
	whole := g[:cap(g)]
	for at := range whole {
		whole[at] = api.Block{End: 99}
	}
}

// TestEachCodeIsMemoryOfItsOwn writes into one Code after the other, and looks at all the rest.
func TestEachCodeIsMemoryOfItsOwn(t *testing.T) {
	p := program(t, "ldb [0]\ntax\njeq #7 1 0\ntxa\nadd #1\nja 1\nneg\nst M[1]\nret a")
	want, _ := graph.Of(p)
	for at := range want {
		g, _ := graph.Of(p)
		whole := g[at].Code[:cap(g[at].Code)]
		for j := range whole {
			whole[j] = k(api.LdxLen, 99)
		}
		_ = append(g[at].Code, k(api.Neg, 98), k(api.Neg, 97))
		for other := range g {
			if other != at && !slices.Equal(g[other].Code, want[other].Code) {
				t.Errorf("R3: the Codes of blocks %d and %d share memory", at, other)
			}
		}
		if again, _ := graph.Of(p); !same(again, want) {
			t.Errorf("R3: what was handed out is kept: %+v", again)
		}
	}
}

func TestReachIsNewMemory(t *testing.T) {
	g := list(goes(2), ret(0), ret(0))
	one, _ := graph.Reach(g)
	two, _ := graph.Reach(g)
	for at := range one {
		one[at] = !one[at]
	}
	_ = append(one, true)
	if !slices.Equal(two, []bool{true, false, true}) {
		t.Errorf("R3: two answers share memory: %v", two)
	}
	expectReach(t, "again", g, "101")
}

// TestSideBySide has calls at one time over one graph and one packet.
func TestSideBySide(t *testing.T) {
	g := list(test(k(api.JgtK, 5), 2, 1, k(api.LdAbsB, 0), k(api.St, 1)), ret(1), retA(k(api.LdxMem, 1), k(api.AddX, 0)))
	packet := []byte{21}
	var all sync.WaitGroup
	for range 8 {
		all.Go(func() {
			for range 100 {
				expectRun(t, "side by side", g, packet, returned(42, 6))
				expectReach(t, "side by side", g, "111")
			}
		})
	}
	all.Wait()
}
