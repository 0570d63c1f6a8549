package opt_test

import (
	"slices"
	"testing"

	"riddle/api"
	"riddle/graph"
	"riddle/insn"
)

// mayFail tells each instruction that may end a run by a fault.
func mayFail() []api.Insn {
	var out []api.Insn
	for _, i := range each(straights()) {
		if _, _, may := insn.Uses(i.Code); may {
			out = append(out, i)
		}
	}
	return out
}

// packets tells all beginnings of a packet in which bytes differ, noughts among them.
func packets() [][]byte {
	return beginnings(5, 0, 3, 255, 7, 1, 0, 9, 12, 200, 6, 4)
}

// TestFaults has each instruction that may fail, at each beginning of a packet: read, unread, in a row, ahead of each end.
func TestFaults(t *testing.T) {
	t.Parallel()
	turn := 0
	for _, i := range mayFail() {
		for _, x := range [][]api.Insn{nil, {k(api.LdxImm, 1)}, {k(api.LdxImm, api.MaxPacket-5)}, {k(api.LdxMsh, 1)}, {k(api.LdxLen, 0)}, {k(api.LdAbsB, 1), k(api.Tax, 0)}} {
			code := slices.Concat(x, []api.Insn{i})
			twice := slices.Concat(code, []api.Insn{i})
			ends := list(ret(0), ret(1), retA(), retA(k(api.LdImm, 0)), ret(0, k(api.LdAbsB, 3)), retA(k(api.Txa, 0)), ret(4, k(api.St, 2)), retA(k(api.LdLen, 0)))
			// Two ends at a time, in turn: over all places each one comes with each code.
			turn++
			for _, end := range list(ends[turn%8], ends[turn*3%5]) {
				improved(t, "a fault", list(behind(end, code...)), packets())
				improved(t, "a fault twice", list(behind(end, twice...)), packets())
				improved(t, "a fault ahead of a go", list(test(k(api.JgtK, 4), 1, 2, k(api.LdLen, 0)), goes(2, code...), end), packets())
				improved(t, "a fault ahead of a test", list(test(k(api.JgtK, 4), 1, 2, code...), end, ret(0)), packets())
				improved(t, "a fault ahead of a test with one goal", list(test(k(api.JgtK, 4), 1, 1, code...), end), packets())
				improved(t, "a fault behind a test", list(test(k(api.JgtK, 4), 1, 2, k(api.LdLen, 0)), behind(end, code...), end), packets())
			}
		}
	}
}

// value asks for the value of the answer over a packet.
func value(t *testing.T, what string, h []api.Block, packet []byte, want uint32, steps int) {
	t.Helper()
	if v, e := graph.Run(h, packet); e != api.OK || v.Value != want || v.Steps > steps {
		t.Errorf("P17.1: %s over % x: %+v, %d; want %d in at most %d steps: %+v", what, packet, v, e, want, steps, h)
	}
}

// TestALoadThatNobodyReadsIsAskedFor tells the values themselves.
func TestALoadThatNobodyReadsIsAskedFor(t *testing.T) {
	h := improved(t, "one load", list(ret(7, k(api.LdAbsH, 2))), packets())
	value(t, "one load", h, []byte{1, 2, 3}, 0, 1)
	value(t, "one load", h, []byte{1, 2, 3, 4}, 7, 2)
	h = improved(t, "X from the packet", list(ret(7, k(api.LdxMsh, 1), k(api.LdIndB, 2))), packets())
	value(t, "X from the packet", h, []byte{1}, 0, 1)
	value(t, "X from the packet", h, []byte{1, 1, 3, 4, 5, 6}, 0, 2)
	value(t, "X from the packet", h, []byte{1, 1, 3, 4, 5, 6, 7}, 7, 3)
	h = improved(t, "a load on each way", list(test(k(api.JeqK, 5), 1, 2, k(api.LdAbsB, 0)), goes(3, k(api.LdAbsB, 1)), goes(3, k(api.LdAbsB, 2)), ret(9)), packets())
	value(t, "a load on each way", h, []byte{5}, 0, 3)
	value(t, "a load on each way", h, []byte{5, 6}, 9, 4)
	value(t, "a load on each way", h, []byte{6, 6}, 0, 3)
	becomes(t, "a load ahead of a return of 0", list(ret(0, k(api.LdAbsB, 0), k(api.LdxMsh, 1), k(api.LdIndB, 1))), ret(0))
	becomes(t, "a test whose goals both return 0", list(test(k(api.JgtK, 1), 1, 2, k(api.LdAbsB, 3), k(api.St, 2)), ret(0, k(api.LdMem, 2)), test(k(api.JeqX, 0), 3, 4, k(api.LdAbsW, 1), k(api.DivX, 0)), ret(0), retA(k(api.LdImm, 0))), ret(0))
	becomes(t, "a load ahead of a go to a return of 0", list(test(k(api.JgtK, 1), 1, 2, k(api.LdLen, 0)), goes(3, k(api.LdAbsB, 2)), test(k(api.JeqK, 3), 3, 4), ret(0), ret(1)),
		test(k(api.JgtK, 1), 2, 1, k(api.LdLen, 0)), test(k(api.JeqK, 3), 2, 3), ret(0), ret(1))
}

// TestSureFaults has what is a fault whatever the packet is, at its edges.
func TestSureFaults(t *testing.T) {
	whole := make([]byte, api.MaxPacket)
	for n := range whole {
		whole[n] = byte(n*7 + 1)
	}
	some := [][]byte{nil, {1, 2}, whole[:api.MaxPacket-4], whole[:api.MaxPacket-3], whole[:api.MaxPacket-2], whole[:api.MaxPacket-1], whole}
	for _, x := range []api.Insn{k(api.LdxImm, 0), k(api.LdxImm, 1), k(api.LdxImm, 4), k(api.LdxImm, 65535), k(api.LdxImm, 1<<32-1), k(api.LdxLen, 0)} {
		for _, code := range []uint16{api.LdIndW, api.LdIndH, api.LdIndB, api.LdAbsW, api.LdAbsH, api.LdAbsB, api.LdxMsh} {
			for _, at := range []uint32{0, 1, api.MaxPacket - 5, api.MaxPacket - 4, api.MaxPacket - 3, api.MaxPacket - 2, api.MaxPacket - 1, api.MaxPacket, 1<<32 - 4, 1<<32 - 1} {
				improved(t, "a far load", list(retA(x, k(code, at))), some)
				improved(t, "a far load that nobody reads", list(ret(7, x, k(code, at))), some)
				improved(t, "a far load behind a test", list(test(k(api.JgtK, 1), 1, 2, k(api.LdLen, 0)), goes(3, x, k(code, at), k(api.AddK, 1)), goes(3, k(api.LdImm, 4)), retA()), some)
			}
		}
	}
	becomes(t, "a load that no packet has", list(ret(7, k(api.LdxImm, 1), k(api.LdIndB, 1<<32-1))), ret(0))
	for code, size := range map[uint16]uint32{api.LdAbsW: 4, api.LdAbsH: 2, api.LdAbsB: 1, api.LdIndW: 4, api.LdIndH: 2, api.LdIndB: 1, api.LdxMsh: 1} {
		becomes(t, "a load that no packet has", list(ret(7, k(api.LdxLen, 0), k(code, api.MaxPacket+1-size))), ret(0))
		if h := improve(t, list(ret(7, k(api.LdxMsh, 0), k(code, api.MaxPacket-size)))); len(h[0].Code) == 0 {
			t.Errorf("P17.1: a load that a packet may have: %+v", h)
		}
	}
	becomes(t, "the last byte of the longest packet", list(retA(k(api.LdxImm, 5), k(api.LdIndB, api.MaxPacket-6))), retA(k(api.LdAbsB, api.MaxPacket-1)))
}

// TestDivisionsAndShifts has divisors and shifts that are known, unknown, nought and too far.
func TestDivisionsAndShifts(t *testing.T) {
	for _, code := range []uint16{api.DivX, api.ModX, api.LshX, api.RshX} {
		for _, a := range []api.Insn{k(api.LdImm, 0), k(api.LdImm, 1000), k(api.LdAbsB, 0), k(api.Txa, 0), k(api.LdLen, 0)} {
			for _, by := range []api.Insn{k(api.LdxImm, 0), k(api.LdxImm, 1), k(api.LdxImm, 7), k(api.LdxImm, 31), k(api.LdxImm, 32), k(api.LdxImm, 33), k(api.LdxImm, 1<<32-1), k(api.LdxMsh, 1), k(api.LdxLen, 0), k(api.LdxMem, 2)} {
				for _, end := range list(retA(), ret(9), ret(0), retA(k(api.LdImm, 3))) {
					improved(t, "a division or a shift", list(behind(end, by, a, k(code, 0))), packets())
				}
			}
		}
	}
	for _, code := range []uint16{api.DivX, api.ModX} {
		h := improved(t, "by nought", list(ret(9, k(api.LdAbsB, 0), k(code, 0))), packets())
		value(t, "by nought", h, []byte{3}, 0, 2)
		h = improved(t, "by what may be nought", list(ret(9, k(api.LdxLen, 0), k(api.LdImm, 1), k(code, 0))), packets())
		value(t, "by what may be nought", h, nil, 0, 3)
		value(t, "by what may be nought", h, []byte{3}, 9, 4)
		h = improved(t, "by itself", list(ret(9, k(api.LdLen, 0), k(api.Tax, 0), k(code, 0))), packets())
		value(t, "by itself", h, nil, 0, 3)
	}
	becomes(t, "a division by a constant", list(retA(k(api.LdAbsB, 0), k(api.LdxImm, 3), k(api.DivX, 0))), retA(k(api.LdAbsB, 0), k(api.DivK, 3)))
	becomes(t, "a shift too far", list(retA(k(api.LdAbsB, 0), k(api.LdxImm, 32), k(api.LshX, 0), k(api.AddK, 6))), ret(6, k(api.LdAbsB, 0)))
	becomes(t, "a remainder by 1", list(retA(k(api.LdAbsB, 0), k(api.ModK, 1))), ret(0))
}
