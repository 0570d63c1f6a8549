package vm_test

import (
	"slices"
	"sync"
	"testing"

	"riddle/api"
	"riddle/vm"
)

// TestHandedInStays has spare room behind both lists that, if it were looked at, would turn the answer.
func TestHandedInStays(t *testing.T) {
	room := []api.Insn{
		{Code: api.LdAbsB, K: 1}, {Code: api.St, K: 3}, {Code: api.LdMem, K: 3}, {Code: api.RetA},
		{Code: api.RetK, K: 77}, {Code: 8}, {Code: api.Ja, K: 99},
	}
	bytes := []byte{1, 2, 3, 4, 5, 6}
	roomWas, bytesWas := slices.Clone(room), slices.Clone(bytes)
	expect(t, room[:4], bytes[:2], returned(2, 4), all(4))
	expect(t, room[:4], bytes[:1], failed(api.FaultLoad, 1), all(1))
	refuse(t, "a return that lies behind the program only", room[:3], bytes[:2], api.ErrVmProgram)
	if !slices.Equal(room, roomWas) || !slices.Equal(bytes, bytesWas) {
		t.Errorf("R3: what was handed in was changed: %v, % x", room, bytes)
	}
	long := make([]byte, api.MaxPacket+1)
	expect(t, room[:4], long[:api.MaxPacket], returned(0, 4), all(4))
}

// TestJumpIntoSpareRoom: a goal behind the program's length is outside, whatever lies there.
func TestJumpIntoSpareRoom(t *testing.T) {
	room := []api.Insn{{Code: api.Ja, K: 1}, {Code: api.RetK, K: 1}, {Code: api.RetK, K: 2}}
	refuse(t, "a goal in the spare room", room[:2], nil, api.ErrVmProgram)
	expect(t, room, nil, returned(2, 2), []int{0, 2})
}

func TestHandedOutIsNew(t *testing.T) {
	p := []api.Insn{{Code: api.LdImm, K: 4}, {Code: api.JeqK, K: 4, Jt: 1}, {Code: api.RetK}, {Code: api.RetA}}
	one, _ := vm.Trace(p, nil)
	two, _ := vm.Trace(p, nil)
	want := []int{0, 1, 3}
	for j := range one {
		one[j] = 99
	}
	_ = append(one, 98)
	if !slices.Equal(two, want) {
		t.Errorf("R3: two answers share memory: %v", two)
	}
	if three, _ := vm.Trace(p, nil); !slices.Equal(three, want) {
		t.Errorf("R3: what was handed out is kept: %v", three)
	}
}

// TestNothingStays: a run begins with noughts, whatever the run ahead of it left behind, and hangs on nothing but what it is given.
func TestNothingStays(t *testing.T) {
	fill := program(t, "ld #9\nldx #8\nst M[2]\nstx M[3]\nret a")
	look := program(t, "ld M[2]\nldx M[3]\nadd x\nret a")
	first := program(t, "add x\nret a")
	fails := program(t, "ld #1\nldx #0\ndiv x\nret a")
	for range 3 {
		expect(t, fill, nil, returned(9, 5), all(5))
		expect(t, look, nil, returned(0, 4), all(4))
		expect(t, first, nil, returned(0, 2), all(2))
		expect(t, fails, nil, failed(api.FaultZero, 3), all(3))
	}
	p, packet := program(t, "ldb [0]\nret a"), []byte{5}
	expect(t, p, packet, returned(5, 2), all(2))
	packet[0], p[1] = 6, api.Insn{Code: api.RetK, K: 1}
	expect(t, p, packet, returned(1, 2), all(2))
	p[1] = api.Insn{Code: api.RetA}
	expect(t, p, packet, returned(6, 2), all(2))
}

// TestSideBySide has runs at one time over one program and one packet.
func TestSideBySide(t *testing.T) {
	p := program(t, "ldb [0]\nst M[1]\nldx M[1]\nadd x\nret a")
	packet := []byte{21}
	var all sync.WaitGroup
	for range 8 {
		all.Go(func() {
			for range 200 {
				if v, e := vm.Run(p, packet); e != api.OK || v != returned(42, 5) {
					t.Errorf("R4: %+v, %d", v, e)
				}
			}
		})
	}
	all.Wait()
}

func BenchmarkSmall(b *testing.B) {
	p := []api.Insn{{Code: api.LdAbsB}, {Code: api.JeqK, K: 4, Jt: 1}, {Code: api.RetK}, {Code: api.RetA}}
	packet := make([]byte, 100)
	for b.Loop() {
		vm.Run(p, packet)
	}
}

func BenchmarkLongest(b *testing.B) {
	p := slices.Repeat([]api.Insn{{Code: api.LdIndW, K: 100}}, api.MaxProgram)
	p[len(p)-1] = api.Insn{Code: api.RetA}
	packet := make([]byte, api.MaxPacket)
	for b.Loop() {
		vm.Run(p, packet)
	}
}
