package graph_test

import (
	"math"
	"testing"

	"riddle/api"
	"riddle/graph"
	"riddle/vm"
)

func returned(value uint32, steps int) api.Verdict { return api.Verdict{Value: value, Steps: steps} }

func failed(fault, steps int) api.Verdict { return api.Verdict{Fault: fault, Steps: steps} }

func TestEachEndOfARun(t *testing.T) {
	tax := k(api.Tax, 0)
	expectRun(t, "a return of K", list(ret(7)), nil, returned(7, 1))
	expectRun(t, "a return of A", list(retA()), nil, returned(0, 1))
	expectRun(t, "a return of A behind a Code", list(retA(k(api.LdImm, 9), tax)), nil, returned(9, 3))
	expectRun(t, "a return of the greatest K", list(ret(math.MaxUint32)), nil, returned(math.MaxUint32, 1))
	expectRun(t, "a go counts nothing", list(goes(1), goes(2), ret(5)), nil, returned(5, 1))
	expectRun(t, "a go behind a Code", list(goes(2, tax, tax), ret(4), ret(5)), nil, returned(5, 3))
	expectRun(t, "a go past blocks", list(goes(3), ret(1), ret(2), ret(3)), nil, returned(3, 1))
	expectRun(t, "a test counts", list(test(k(api.JeqK, 0), 2, 1), ret(4), ret(5)), nil, returned(5, 2))
	expectRun(t, "a test behind a Code", list(test(k(api.JeqK, 0), 2, 1, k(api.LdImm, 1)), ret(4), ret(5)), nil, returned(4, 3))
	expectRun(t, "a test with one goal", list(test(k(api.JeqK, 0), 1, 1), ret(4)), nil, returned(4, 2))
}

// TestTheWordsGoOn: what a block leaves, the next one finds.
func TestTheWordsGoOn(t *testing.T) {
	g := list(
		goes(1, k(api.LdImm, 3), k(api.LdxImm, 5), k(api.Stx, 15)),
		test(k(api.JgtK, 2), 2, 4, k(api.St, 0)),
		goes(3, k(api.AddX, 0), k(api.LdxMem, 0)),
		retA(k(api.MulX, 0), k(api.LdxMem, 15), k(api.AddX, 0)),
		ret(9),
	)
	expectRun(t, "words", g, nil, returned(29, 11))
}

// TestARunBeginsWithNoughts, whatever the run ahead of it left behind.
func TestARunBeginsWithNoughts(t *testing.T) {
	fill := list(retA(k(api.LdImm, 9), k(api.LdxImm, 8), k(api.St, 2), k(api.Stx, 3)))
	look := list(retA(k(api.AddX, 0), k(api.LdxMem, 2), k(api.AddX, 0), k(api.LdxMem, 3), k(api.AddX, 0)))
	for range 3 {
		expectRun(t, "one that fills", fill, nil, returned(9, 5))
		expectRun(t, "one that looks", look, nil, returned(0, 6))
	}
}

func TestEachQuestion(t *testing.T) {
	holds := map[uint16]func(a, by uint32) bool{
		api.JeqK:  func(a, by uint32) bool { return a == by },
		api.JgtK:  func(a, by uint32) bool { return a > by },
		api.JgeK:  func(a, by uint32) bool { return a >= by },
		api.JsetK: func(a, by uint32) bool { return a&by != 0 },
	}
	twin := map[uint16]uint16{api.JeqK: api.JeqX, api.JgtK: api.JgtX, api.JgeK: api.JgeX, api.JsetK: api.JsetX}
	words := []uint32{0, 1, 2, 3, 128, 1<<31 - 1, 1 << 31, math.MaxUint32 - 1, math.MaxUint32}
	for _, code := range inOrder(holds) {
		for _, a := range words {
			for _, by := range words {
				want := uint32(1)
				if holds[code](a, by) {
					want = 2
				}
				byK := list(test(k(code, by), 2, 1, k(api.LdImm, a)), ret(1), ret(2))
				expectRun(t, "by K", byK, nil, returned(want, 3))
				byX := list(test(k(twin[code], 0), 2, 1, k(api.LdImm, a), k(api.LdxImm, by)), ret(1), ret(2))
				expectRun(t, "by X", byX, nil, returned(want, 4))
			}
		}
	}
}

// TestEachFault ends a run where it is; the instruction counts.
func TestEachFault(t *testing.T) {
	tax := k(api.Tax, 0)
	faults := map[uint16]int{
		api.LdAbsW: api.FaultLoad, api.LdAbsH: api.FaultLoad, api.LdAbsB: api.FaultLoad,
		api.LdIndW: api.FaultLoad, api.LdIndH: api.FaultLoad, api.LdIndB: api.FaultLoad,
		api.LdxMsh: api.FaultLoad, api.DivX: api.FaultZero, api.ModX: api.FaultZero,
	}
	packet := []byte{1, 2, 3, 4, 5, 6}
	for _, code := range inOrder(faults) {
		i, want := k(code, 6), faults[code]
		expectRun(t, "at first", list(ret(7, i, tax)), packet, failed(want, 1))
		expectRun(t, "behind others", list(ret(7, tax, tax, i, tax)), packet, failed(want, 3))
		expectRun(t, "in a later block", list(goes(1, tax), ret(7, tax, i)), packet, failed(want, 3))
		expectRun(t, "ahead of a go", list(goes(1, tax, i), ret(7)), packet, failed(want, 2))
		expectRun(t, "ahead of a test", list(test(k(api.JeqK, 0), 1, 1, i), ret(7)), packet, failed(want, 1))
		expectRun(t, "behind a test", list(test(k(api.JeqK, 0), 2, 1), ret(7), retA(i)), packet, failed(want, 2))
		expectRun(t, "with words set", list(retA(k(api.LdImm, 9), k(api.St, 3), i)), packet, failed(want, 3))
		expectRun(t, "that no run comes to", list(test(k(api.JeqK, 1), 2, 1), ret(7), retA(i)), packet, returned(7, 2))
	}
}

// TestEachInstruction runs each one with words set, beside vm.
func TestEachInstruction(t *testing.T) {
	packet := []byte{0x45, 2, 3, 4, 5, 6, 7, 8}
	for _, code := range inOrder(straights()) {
		for _, v := range []uint32{1, 4, 5, 15} {
			code := []api.Insn{
				k(api.LdImm, 0xdeadbeef), k(api.St, v), k(api.LdxImm, 3), k(api.Stx, 4),
				{Code: code, Jt: 9, Jf: 8, K: v}, k(api.St, 7), k(api.Txa, 0), k(api.LdxMem, 7), k(api.AddX, 0), k(api.LdxMem, v), k(api.AddX, 0),
			}
			want, e := vm.Run(append(code[:len(code):len(code)], k(api.RetA, 0)), packet)
			if e != api.OK {
				t.Fatalf("vm does not run code %v: %d", code, e)
			}
			expectRun(t, "in one block", list(retA(code...)), packet, want)
			expectRun(t, "in two blocks", list(goes(1, code[:5]...), retA(code[5:]...)), packet, want)
		}
	}
}

func TestPackets(t *testing.T) {
	long := make([]byte, api.MaxPacket+1)
	long[api.MaxPacket-1], long[api.MaxPacket] = 5, 6
	most := long[:api.MaxPacket]
	expectRun(t, "the length of the greatest packet", list(retA(k(api.LdLen, 0))), most, returned(api.MaxPacket, 2))
	expectRun(t, "its last byte", list(retA(k(api.LdAbsB, api.MaxPacket-1))), most, returned(5, 2))
	expectRun(t, "the byte behind it", list(retA(k(api.LdAbsB, api.MaxPacket))), most, failed(api.FaultLoad, 1))
	for _, g := range [][]api.Block{list(ret(7)), list(goes(1), retA(k(api.LdLen, 0)))} {
		if v, e := graph.Run(g, long); e != api.ErrVmPacket || v != (api.Verdict{}) {
			t.Errorf("P15.2: one byte more: %+v, %d", v, e)
		}
		if v, e := graph.Run(g, make([]byte, 1<<20)); e != api.ErrVmPacket || v != (api.Verdict{}) {
			t.Errorf("P15.2: a megabyte: %+v, %d", v, e)
		}
	}
	for _, w := range append(wrongs(), wrong{api.ErrGraphEmpty, api.Block{}}) {
		g := list(w.block)
		if w.e == api.ErrGraphEmpty {
			g = nil
		}
		if v, e := graph.Run(g, long); e != api.ErrGraphWrong || v != (api.Verdict{}) {
			t.Errorf("P15.2: a wrong graph counts ahead of a long packet: %+v, %d", v, e)
		}
	}
}

// TestLongestRuns go through all blocks and all instructions that a graph may have.
func TestLongestRuns(t *testing.T) {
	one := list(retA(make([]api.Insn, api.MaxProgram)...))
	expectRun(t, "one block", one, nil, returned(0, api.MaxProgram+1))
	all := make([]api.Block, api.MaxBlocks)
	for at := range all {
		all[at] = test(k(api.JgtK, math.MaxUint32), at+2, at+1, k(api.AddK, 2))
	}
	all[api.MaxBlocks-2].Yes--
	all[api.MaxBlocks-1] = retA(k(api.AddK, 2))
	expectRun(t, "all blocks", all, nil, returned(2*api.MaxBlocks, 2*api.MaxBlocks))
	if size, e := graph.Size(all); e != api.OK || size != 2*api.MaxBlocks {
		t.Errorf("P15.3: %d, %d", size, e)
	}
}
