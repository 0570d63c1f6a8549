package vm_test

import (
	"math"
	"slices"
	"testing"

	"riddle/api"
	"riddle/asm"
	"riddle/vm"
	"riddle/word"
)

const top = math.MaxUint32

func program(t *testing.T, text string) []api.Insn {
	t.Helper()
	p, _, e := asm.Parse(text)
	if e != api.OK {
		t.Fatalf("no program: %q: %d", text, e)
	}
	return p
}

func bytesOf(t *testing.T, text string) []byte {
	t.Helper()
	b, ok := word.Unhex(text)
	if !ok {
		t.Fatalf("no bytes: %q", text)
	}
	return b
}

// returned is what a run comes to that ends by a return.
func returned(value uint32, steps int) api.Verdict {
	return api.Verdict{Value: value, Steps: steps}
}

// failed is what a run comes to that ends by a fault.
func failed(fault int, steps int) api.Verdict {
	return api.Verdict{Fault: fault, Steps: steps}
}

// all is the places of a run that goes straight on.
func all(steps int) []int {
	var out []int
	for at := range steps {
		out = append(out, at)
	}
	return out
}

func expect(t *testing.T, p []api.Insn, packet []byte, want api.Verdict, places []int) {
	t.Helper()
	if v, e := vm.Run(p, packet); e != api.OK || v != want {
		t.Errorf("P5.1: %v over % x: %+v, %d; want %+v", p, packet, v, e, want)
	}
	if l, e := vm.Trace(p, packet); e != api.OK || !slices.Equal(l, places) {
		t.Errorf("P5.2: %v over % x: %v, %d; want %v", p, packet, l, e, places)
	}
}

func refuse(t *testing.T, what string, p []api.Insn, packet []byte, want api.Errno) {
	t.Helper()
	if v, e := vm.Run(p, packet); e != want || v != (api.Verdict{}) {
		t.Errorf("P5.1: %s: %+v, %d; want %d", what, v, e, want)
	}
	if l, e := vm.Trace(p, packet); e != want || l != nil {
		t.Errorf("P5.2: %s: %v, %d; want %d", what, l, e, want)
	}
}

// straight has programs without jumps: those that return carry out all their instructions.
type straight struct {
	text, packet string
	want         api.Verdict
}

func (s straight) expect(t *testing.T) {
	t.Helper()
	expect(t, program(t, s.text), bytesOf(t, s.packet), s.want, all(s.want.Steps))
}

func TestExamples(t *testing.T) {
	for _, x := range []straight{
		{"ret #5", "", returned(5, 1)},
		{"ldh [1]\nret a", "010203", returned(515, 2)},
		{"ld [0]\nret a", "010203", failed(api.FaultLoad, 1)},
		{"ldx #4294967295\nldb [x+1]\nret a", "01", failed(api.FaultLoad, 2)},
		{"ld len\ntax\nld #7\nmod x\nret a", "", failed(api.FaultZero, 4)},
	} {
		x.expect(t)
	}
	p := []api.Insn{{Code: api.LdImm, K: 1}, {Code: api.LshK, K: 31}, {Code: api.JgtK, K: 2147483647, Jt: 1}, {Code: api.RetK}, {Code: api.RetK, K: 9}}
	expect(t, p, nil, returned(9, 4), []int{0, 1, 2, 4})
}

func TestReturns(t *testing.T) {
	for _, x := range []straight{
		{"ret #0", "", returned(0, 1)},
		{"ret #4294967295", "0102", returned(top, 1)},
		{"ret a", "0102", returned(0, 1)},
		{"ld #9\nldx #4\nret a", "", returned(9, 3)},
		{"ld #9\nldx #4\nret #5", "", returned(5, 3)},
		{"ld #9\nret a\nret #1", "", returned(9, 2)},
		{"ret #2\nld [7]\nret #1", "", returned(2, 1)},
	} {
		x.expect(t)
	}
}

// TestUnseenFields has numbers in all fields that an instruction does not look at.
func TestUnseenFields(t *testing.T) {
	expect(t, []api.Insn{
		{Code: api.LdImm, K: 21, Jt: 9, Jf: 8},
		{Code: api.Tax, K: 3, Jt: 200, Jf: 200},
		{Code: api.AddX, K: 1000},
		{Code: api.Ja, K: 1, Jt: 7, Jf: 7},
		{Code: api.RetK, K: 1},
		{Code: api.JeqX, K: 42, Jt: 0, Jf: 1},
		{Code: api.RetK, K: 2},
		{Code: api.Neg, K: top},
		{Code: api.Neg, Jt: 255},
		{Code: api.DivX, K: 0},
		{Code: api.RetA, K: 77, Jt: 5},
	}, nil, returned(2, 9), []int{0, 1, 2, 3, 5, 7, 8, 9, 10})
	expect(t, []api.Insn{
		{Code: api.LdLen, K: top, Jt: 1},
		{Code: api.LdxLen, K: top, Jf: 1},
		{Code: api.MulX, K: 5},
		{Code: api.Tax, K: 16},
		{Code: api.Txa, K: 16},
		{Code: api.RetA},
	}, make([]byte, 300), returned(90000, 6), all(6))
}

func TestLoads(t *testing.T) {
	const packet = "0102030405f6f7f8"
	for _, x := range []straight{
		{"ld #7\nret a", packet, returned(7, 2)},
		{"ld [0]\nret a", packet, returned(0x01020304, 2)},
		{"ld [4]\nret a", packet, returned(0x05f6f7f8, 2)},
		{"ld [5]\nret a", packet, failed(api.FaultLoad, 1)},
		{"ldh [0]\nret a", packet, returned(0x0102, 2)},
		{"ldh [6]\nret a", packet, returned(0xf7f8, 2)},
		{"ldh [7]\nret a", packet, failed(api.FaultLoad, 1)},
		{"ldb [0]\nret a", packet, returned(1, 2)},
		{"ldb [7]\nret a", packet, returned(0xf8, 2)},
		{"ldb [8]\nret a", packet, failed(api.FaultLoad, 1)},
		{"ld len\nret a", packet, returned(8, 2)},
		{"ldx len\ntxa\nret a", packet, returned(8, 3)},
		{"ld len\nret a", "", returned(0, 2)},
		{"ldx #1\nldx len\ntxa\nret a", "", returned(0, 4)},
		{"ld [0]\nret a", "", failed(api.FaultLoad, 1)},
		{"ldh [0]\nret a", "", failed(api.FaultLoad, 1)},
		{"ldb [0]\nret a", "", failed(api.FaultLoad, 1)},
		{"ld [x+0]\nret a", "", failed(api.FaultLoad, 1)},
		{"ldh [x+0]\nret a", "", failed(api.FaultLoad, 1)},
		{"ldb [x+0]\nret a", "", failed(api.FaultLoad, 1)},
		{"ldxb 4*([0]&15)\nret a", "", failed(api.FaultLoad, 1)},
		{"ld [4294967295]\nret a", packet, failed(api.FaultLoad, 1)},
		{"ldh [4294967295]\nret a", packet, failed(api.FaultLoad, 1)},
		{"ldb [4294967295]\nret a", packet, failed(api.FaultLoad, 1)},
		{"ld [4294967292]\nret a", packet, failed(api.FaultLoad, 1)},
		{"ldh [2147483648]\nret a", packet, failed(api.FaultLoad, 1)},
		{"ldxb 4*([4294967295]&15)\nret a", packet, failed(api.FaultLoad, 1)},
		{"ldxb 4*([5]&15)\ntxa\nret a", packet, returned(24, 3)},
		{"ldxb 4*([7]&15)\ntxa\nret a", packet, returned(32, 3)},
		{"ldxb 4*([8]&15)\ntxa\nret a", packet, failed(api.FaultLoad, 1)},
		{"ldxb 4*([0]&15)\ntxa\nret a", "ff", returned(60, 3)},
		{"ldxb 4*([0]&15)\ntxa\nret a", "f0", returned(0, 3)},
		{"ld #9\nldxb 4*([0]&15)\nret a", "ff", returned(9, 3)},
	} {
		x.expect(t)
	}
}

func TestLoadsFromX(t *testing.T) {
	const packet = "0102030405f6f7f8"
	for _, x := range []straight{
		{"ldx #0\nld [x+0]\nret a", packet, returned(0x01020304, 3)},
		{"ldx #1\nld [x+3]\nret a", packet, returned(0x05f6f7f8, 3)},
		{"ldx #3\nld [x+1]\nret a", packet, returned(0x05f6f7f8, 3)},
		{"ldx #2\nld [x+3]\nret a", packet, failed(api.FaultLoad, 2)},
		{"ldx #5\nldh [x+1]\nret a", packet, returned(0xf7f8, 3)},
		{"ldx #0\nldh [x+6]\nret a", packet, returned(0xf7f8, 3)},
		{"ldx #7\nldh [x+0]\nret a", packet, failed(api.FaultLoad, 2)},
		{"ldx #7\nldb [x+0]\nret a", packet, returned(0xf8, 3)},
		{"ldx #3\nldb [x+2]\nret a", packet, returned(0xf6, 3)},
		{"ldx #4\nldb [x+4]\nret a", packet, failed(api.FaultLoad, 2)},
		{"ldx #4294967295\nld [x+1]\nret a", packet, failed(api.FaultLoad, 2)},
		{"ldx #4294967295\nldh [x+1]\nret a", packet, failed(api.FaultLoad, 2)},
		{"ldx #4294967295\nldb [x+1]\nret a", packet, failed(api.FaultLoad, 2)},
		{"ldx #4294967292\nldb [x+4]\nret a", packet, failed(api.FaultLoad, 2)},
		{"ldx #4294967292\nldb [x+3]\nret a", packet, failed(api.FaultLoad, 2)},
		{"ldx #1\nld [x+4294967295]\nret a", packet, failed(api.FaultLoad, 2)},
		{"ldx #2147483648\nldb [x+2147483648]\nret a", packet, failed(api.FaultLoad, 2)},
		{"ldx #4294967295\nldh [x+4294967295]\nret a", packet, failed(api.FaultLoad, 2)},
		{"ldx #3\nldb [x+2]\ntxa\nret a", packet, returned(3, 4)},
	} {
		x.expect(t)
	}
}

func TestLastBytesOfTheGreatestPacket(t *testing.T) {
	packet := make([]byte, api.MaxPacket)
	copy(packet[api.MaxPacket-4:], []byte{9, 8, 7, 6})
	for _, x := range []struct {
		code  uint16
		place uint32
		want  uint32
	}{
		{api.LdAbsW, api.MaxPacket - 4, 0x09080706}, {api.LdAbsH, api.MaxPacket - 2, 0x0706}, {api.LdAbsB, api.MaxPacket - 1, 6},
		{api.LdIndW, api.MaxPacket - 4, 0x09080706}, {api.LdIndH, api.MaxPacket - 2, 0x0706}, {api.LdIndB, api.MaxPacket - 1, 6},
	} {
		expect(t, []api.Insn{{Code: x.code, K: x.place}, {Code: api.RetA}}, packet, returned(x.want, 2), all(2))
		expect(t, []api.Insn{{Code: x.code, K: x.place + 1}, {Code: api.RetA}}, packet, failed(api.FaultLoad, 1), all(1))
		expect(t, []api.Insn{{Code: x.code, K: x.place}, {Code: api.RetA}}, packet[:api.MaxPacket-1], failed(api.FaultLoad, 1), all(1))
	}
	expect(t, []api.Insn{{Code: api.LdLen}, {Code: api.RetA}}, packet, returned(65536, 2), all(2))
	expect(t, []api.Insn{{Code: api.LdxLen}, {Code: api.Txa}, {Code: api.RetA}}, packet, returned(65536, 3), all(3))
	expect(t, []api.Insn{{Code: api.LdxMsh, K: 65535}, {Code: api.Txa}, {Code: api.RetA}}, packet, returned(24, 3), all(3))
	expect(t, []api.Insn{{Code: api.LdxMsh, K: 65536}, {Code: api.Txa}, {Code: api.RetA}}, packet, failed(api.FaultLoad, 1), all(1))
}

// sum is what a calculation comes to by K and by X; where with is 0 and it is by K, check may refuse it.
type sum struct {
	byK, byX uint16
	a, with  uint32
	want     uint32
}

func sums() []sum {
	return []sum{
		{api.AddK, api.AddX, 5, 7, 12}, {api.AddK, api.AddX, top, 1, 0}, {api.AddK, api.AddX, top, top, top - 1}, {api.AddK, api.AddX, 9, 0, 9},
		{api.SubK, api.SubX, 7, 5, 2}, {api.SubK, api.SubX, 5, 7, top - 1}, {api.SubK, api.SubX, 0, 1, top}, {api.SubK, api.SubX, 0, top, 1}, {api.SubK, api.SubX, 4, 4, 0},
		{api.MulK, api.MulX, 6, 7, 42}, {api.MulK, api.MulX, 65536, 65536, 0}, {api.MulK, api.MulX, top, top, 1}, {api.MulK, api.MulX, 65537, 65536, 65536}, {api.MulK, api.MulX, 8, 0, 0},
		{api.DivK, api.DivX, 7, 2, 3}, {api.DivK, api.DivX, 7, 1, 7}, {api.DivK, api.DivX, top, 1, top}, {api.DivK, api.DivX, top, 2, 1<<31 - 1}, {api.DivK, api.DivX, 1, top, 0}, {api.DivK, api.DivX, 1 << 31, top, 0}, {api.DivK, api.DivX, 0, 3, 0},
		{api.ModK, api.ModX, 7, 4, 3}, {api.ModK, api.ModX, 7, 1, 0}, {api.ModK, api.ModX, top, 10, 5}, {api.ModK, api.ModX, 1 << 31, top, 1 << 31}, {api.ModK, api.ModX, 7, 7, 0}, {api.ModK, api.ModX, 0, 3, 0},
		{api.OrK, api.OrX, 12, 10, 14}, {api.OrK, api.OrX, 0, 0, 0}, {api.OrK, api.OrX, 0xf0000000, 0x0000000f, 0xf000000f},
		{api.AndK, api.AndX, 12, 10, 8}, {api.AndK, api.AndX, top, 0xf0f0f0f0, 0xf0f0f0f0}, {api.AndK, api.AndX, top, 0, 0},
		{api.XorK, api.XorX, 12, 10, 6}, {api.XorK, api.XorX, top, top, 0}, {api.XorK, api.XorX, top, 1, top - 1},
		{api.LshK, api.LshX, 1, 0, 1}, {api.LshK, api.LshX, 3, 4, 48}, {api.LshK, api.LshX, 3, 31, 1 << 31}, {api.LshK, api.LshX, top, 1, top - 1},
		{api.RshK, api.RshX, 1, 0, 1}, {api.RshK, api.RshX, 48, 4, 3}, {api.RshK, api.RshX, top, 31, 1}, {api.RshK, api.RshX, 1 << 31, 1, 1 << 30}, {api.RshK, api.RshX, 7, 1, 3},
	}
}

func TestSums(t *testing.T) {
	for _, x := range sums() {
		expect(t, []api.Insn{{Code: api.LdImm, K: x.a}, {Code: x.byK, K: x.with}, {Code: api.RetA}}, nil, returned(x.want, 3), all(3))
		expect(t, []api.Insn{{Code: api.LdImm, K: x.a}, {Code: api.LdxImm, K: x.with}, {Code: x.byX}, {Code: api.RetA}}, nil, returned(x.want, 4), all(4))
		expect(t, []api.Insn{{Code: api.LdImm, K: x.a}, {Code: api.LdxImm, K: x.with}, {Code: x.byX}, {Code: api.Txa}, {Code: api.RetA}}, nil, returned(x.with, 5), all(5))
	}
}

func TestShiftsByMuch(t *testing.T) {
	for _, by := range []uint32{32, 33, 63, 64, 65, 255, 256, 1 << 31, 1<<31 + 1, top - 31, top} {
		for _, code := range []uint16{api.LshX, api.RshX} {
			expect(t, []api.Insn{{Code: api.LdImm, K: top}, {Code: api.LdxImm, K: by}, {Code: code}, {Code: api.RetA}}, nil, returned(0, 4), all(4))
		}
		for _, code := range []uint16{api.LshK, api.RshK} {
			refuse(t, "a constant shift by much", []api.Insn{{Code: code, K: by}, {Code: api.RetA}}, nil, api.ErrVmProgram)
		}
	}
}

func TestDivisionsByNought(t *testing.T) {
	for _, x := range []straight{
		{"div x\nret a", "", failed(api.FaultZero, 1)},
		{"mod x\nret a", "", failed(api.FaultZero, 1)},
		{"ld #5\nldx #0\ndiv x\nret a", "", failed(api.FaultZero, 3)},
		{"ld #5\nldx #0\nmod x\nret a", "", failed(api.FaultZero, 3)},
		{"ld #5\nldx #1\ndiv x\nret a", "", returned(5, 4)},
		{"ld #5\nldx #1\nmod x\nret a", "", returned(0, 4)},
		{"ldx #3\ndiv x\nret a", "", returned(0, 3)},
		{"ldx M[4]\nld #1\ndiv x\nld [100]\nret #3", "", failed(api.FaultZero, 3)},
		{"ld [100]\ndiv x\nret #3", "", failed(api.FaultLoad, 1)},
	} {
		x.expect(t)
	}
	for _, code := range []uint16{api.DivK, api.ModK} {
		refuse(t, "a constant divisor 0", []api.Insn{{Code: code}, {Code: api.RetA}}, nil, api.ErrVmProgram)
	}
}

func TestMovesAndNeg(t *testing.T) {
	for _, x := range []straight{
		{"neg\nret a", "", returned(0, 2)},
		{"ld #1\nneg\nret a", "", returned(top, 3)},
		{"ld #4294967295\nneg\nret a", "", returned(1, 3)},
		{"ld #2147483648\nneg\nret a", "", returned(1<<31, 3)},
		{"ldx #5\nld #3\nneg\ntxa\nret a", "", returned(5, 5)},
		{"ld #3\ntax\nld #4\nadd x\nret a", "", returned(7, 5)},
		{"ld #3\ntax\nret a", "", returned(3, 3)},
		{"ldx #3\nld #9\ntxa\nret a", "", returned(3, 4)},
		{"ldx #3\ntxa\nadd x\nret a", "", returned(6, 4)},
		{"txa\nret a", "", returned(0, 2)},
		{"ld #7\nldx #3\nret a", "", returned(7, 3)},
	} {
		x.expect(t)
	}
}

func TestScratch(t *testing.T) {
	for k := range uint32(api.MaxScratch) {
		expect(t, []api.Insn{{Code: api.LdImm, K: 5}, {Code: api.LdMem, K: k}, {Code: api.RetA}}, nil, returned(0, 3), all(3))
		expect(t, []api.Insn{{Code: api.LdxImm, K: 5}, {Code: api.LdxMem, K: k}, {Code: api.Txa}, {Code: api.RetA}}, nil, returned(0, 4), all(4))
	}
	for _, store := range []struct{ set, keep uint16 }{{api.LdImm, api.St}, {api.LdxImm, api.Stx}} {
		var fill []api.Insn
		for k := range uint32(api.MaxScratch) {
			fill = append(fill, api.Insn{Code: store.set, K: 100 + k}, api.Insn{Code: store.keep, K: k})
		}
		fill = append(fill, api.Insn{Code: api.LdImm, K: 1}, api.Insn{Code: api.LdxImm, K: 2})
		for k := range uint32(api.MaxScratch) {
			recallA := append(slices.Clone(fill), api.Insn{Code: api.LdMem, K: k}, api.Insn{Code: api.RetA})
			expect(t, recallA, nil, returned(100+k, 36), all(36))
			recallX := append(slices.Clone(fill), api.Insn{Code: api.LdxMem, K: k}, api.Insn{Code: api.Txa}, api.Insn{Code: api.RetA})
			expect(t, recallX, nil, returned(100+k, 37), all(37))
			keepsA := append(slices.Clone(fill), api.Insn{Code: api.LdxMem, K: k}, api.Insn{Code: api.RetA})
			expect(t, keepsA, nil, returned(1, 36), all(36))
			keepsX := append(slices.Clone(fill), api.Insn{Code: api.LdMem, K: k}, api.Insn{Code: api.Txa}, api.Insn{Code: api.RetA})
			expect(t, keepsX, nil, returned(2, 37), all(37))
		}
	}
	for _, x := range []straight{
		{"ld #3\nst M[0]\nldx #4\nret a", "", returned(3, 4)},
		{"ldx #3\nstx M[0]\nld #4\ntxa\nret a", "", returned(3, 5)},
	} {
		x.expect(t)
	}
	for _, code := range []uint16{api.St, api.Stx, api.LdMem, api.LdxMem} {
		refuse(t, "a word of scratch that there is not", []api.Insn{{Code: code, K: api.MaxScratch}, {Code: api.RetA}}, nil, api.ErrVmProgram)
	}
}

// TestQuestions has A at what it is held against, just below and just above, and around the words that a sign would turn.
func TestQuestions(t *testing.T) {
	for _, x := range []struct {
		byK, byX uint16
		a, with  uint32
		want     bool
	}{
		{api.JeqK, api.JeqX, 5, 5, true}, {api.JeqK, api.JeqX, 4, 5, false}, {api.JeqK, api.JeqX, 6, 5, false}, {api.JeqK, api.JeqX, 0, 0, true}, {api.JeqK, api.JeqX, top, top, true}, {api.JeqK, api.JeqX, 0x10005, 5, false},
		{api.JgtK, api.JgtX, 5, 5, false}, {api.JgtK, api.JgtX, 4, 5, false}, {api.JgtK, api.JgtX, 6, 5, true}, {api.JgtK, api.JgtX, 1 << 31, 1<<31 - 1, true}, {api.JgtK, api.JgtX, 1<<31 - 1, 1 << 31, false}, {api.JgtK, api.JgtX, top, 0, true}, {api.JgtK, api.JgtX, 0, top, false}, {api.JgtK, api.JgtX, 0, 0, false},
		{api.JgeK, api.JgeX, 5, 5, true}, {api.JgeK, api.JgeX, 4, 5, false}, {api.JgeK, api.JgeX, 6, 5, true}, {api.JgeK, api.JgeX, 1 << 31, 1<<31 - 1, true}, {api.JgeK, api.JgeX, 1<<31 - 1, 1 << 31, false}, {api.JgeK, api.JgeX, top, 0, true}, {api.JgeK, api.JgeX, 0, top, false}, {api.JgeK, api.JgeX, 0, 0, true},
		{api.JsetK, api.JsetX, 5, 5, true}, {api.JsetK, api.JsetX, 5, 2, false}, {api.JsetK, api.JsetX, 5, 4, true}, {api.JsetK, api.JsetX, 1 << 31, 1 << 31, true}, {api.JsetK, api.JsetX, 1 << 31, 1<<31 - 1, false}, {api.JsetK, api.JsetX, 0, top, false}, {api.JsetK, api.JsetX, top, 0, false}, {api.JsetK, api.JsetX, 1, top, true},
	} {
		// Of different lengths, so that neither goal is the next instruction.
		value, goal := uint32(13), 4
		if x.want {
			value, goal = 12, 3
		}
		tail := []api.Insn{{Code: api.RetK, K: 11}, {Code: api.RetK, K: 12}, {Code: api.RetK, K: 13}}
		byK := append([]api.Insn{{Code: api.LdImm, K: x.a}, {Code: x.byK, K: x.with, Jt: 1, Jf: 2}}, tail...)
		expect(t, byK, nil, returned(value, 3), []int{0, 1, goal})
		byX := append([]api.Insn{{Code: api.LdImm, K: x.a}, {Code: api.LdxImm, K: x.with}, {Code: x.byX, K: x.with + 1, Jt: 1, Jf: 2}}, tail...)
		expect(t, byX, nil, returned(value, 4), []int{0, 1, 2, goal + 1})
	}
}

func TestJumps(t *testing.T) {
	for _, x := range []struct {
		text   string
		want   api.Verdict
		places []int
	}{
		{"ja 0\nret #1", returned(1, 2), []int{0, 1}},
		{"ja 1\nret #1\nret #2", returned(2, 2), []int{0, 2}},
		{"ja 1\nret #1\nja 1\nret #2\nret #3", returned(3, 3), []int{0, 2, 4}},
		{"jeq #0 0 0\nret #1", returned(1, 2), []int{0, 1}},
		{"jeq #1 0 0\nret #1", returned(1, 2), []int{0, 1}},
		{"jeq #0 0 1\nret #1\nret #2", returned(1, 2), []int{0, 1}},
		{"jeq #1 0 1\nret #1\nret #2", returned(2, 2), []int{0, 2}},
		{"jeq #0 1 0\nld [0]\nld #4\nret a", returned(4, 3), []int{0, 2, 3}},
		{"jeq #1 1 0\nld [0]\nld #4\nret a", failed(api.FaultLoad, 2), []int{0, 1}},
		{"ld #6\nldx #7\njgt x 0 1\nret #1\njset x 0 1\nret a\nret #2", returned(6, 5), []int{0, 1, 2, 4, 5}},
	} {
		expect(t, program(t, x.text), nil, x.want, x.places)
	}
}

// TestFarJumps goes from the first instruction to the last one of the longest programs that a jump can span.
func TestFarJumps(t *testing.T) {
	p := slices.Repeat([]api.Insn{{Code: api.RetK, K: 1}}, api.MaxProgram)
	p[len(p)-1].K = 2
	p[0] = api.Insn{Code: api.Ja, K: api.MaxProgram - 2}
	expect(t, p, nil, returned(2, 2), []int{0, api.MaxProgram - 1})
	q := slices.Repeat([]api.Insn{{Code: api.RetK, K: 1}}, 257)
	q[256].K = 2
	q[0] = api.Insn{Code: api.JeqK, K: 0, Jt: 255, Jf: 3}
	expect(t, q, nil, returned(2, 2), []int{0, 256})
	q[0] = api.Insn{Code: api.JeqK, K: 1, Jt: 3, Jf: 255}
	expect(t, q, nil, returned(2, 2), []int{0, 256})
}

func TestLongestRun(t *testing.T) {
	p := slices.Repeat([]api.Insn{{Code: api.AddK, K: 3}}, api.MaxProgram)
	p[len(p)-1] = api.Insn{Code: api.RetA}
	expect(t, p, nil, returned(3*(api.MaxProgram-1), api.MaxProgram), all(api.MaxProgram))
	p[len(p)-2] = api.Insn{Code: api.LdAbsB}
	expect(t, p, nil, failed(api.FaultLoad, api.MaxProgram-1), all(api.MaxProgram-1))
}

func TestRefused(t *testing.T) {
	long := make([]byte, api.MaxPacket+1)
	good := []api.Insn{{Code: api.RetK, K: 1}}
	for _, x := range []struct {
		what string
		p    []api.Insn
	}{
		{"no program", nil},
		{"an empty program", []api.Insn{}},
		{"too many instructions", slices.Repeat(good, api.MaxProgram+1)},
		{"an unknown code", []api.Insn{{Code: 8}, {Code: api.RetK}}},
		{"the greatest code", []api.Insn{{Code: 0xffff}, {Code: api.RetK}}},
		{"a known code's low byte", []api.Insn{{Code: 0x100 | api.RetK}, {Code: api.RetK}}},
		{"a word of scratch outside", []api.Insn{{Code: api.St, K: 16}, {Code: api.RetK}}},
		{"a divisor 0", []api.Insn{{Code: api.DivK}, {Code: api.RetK}}},
		{"a shift by 32", []api.Insn{{Code: api.LshK, K: 32}, {Code: api.RetK}}},
		{"a Ja outside", []api.Insn{{Code: api.Ja, K: 1}, {Code: api.RetK}}},
		{"a Ja that would wrap", []api.Insn{{Code: api.Ja, K: top}, {Code: api.RetK}}},
		{"a jump outside", []api.Insn{{Code: api.JeqK, Jf: 1}, {Code: api.RetK}}},
		{"no return at the end", []api.Insn{{Code: api.RetK}, {Code: api.Tax}}},
		{"a fault that is not come to", []api.Insn{{Code: api.RetK}, {Code: 8}, {Code: api.RetK}}},
	} {
		refuse(t, x.what, x.p, nil, api.ErrVmProgram)
		refuse(t, x.what+", the packet too long besides", x.p, long, api.ErrVmProgram)
	}
	refuse(t, "a packet too long", good, long, api.ErrVmPacket)
	refuse(t, "a packet far too long", good, make([]byte, 1<<20), api.ErrVmPacket)
	expect(t, good, long[:api.MaxPacket], returned(1, 1), all(1))
	expect(t, good, []byte{}, returned(1, 1), all(1))
}
