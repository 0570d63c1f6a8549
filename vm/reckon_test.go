package vm_test

import (
	"math/big"
	"math/rand"
	"slices"
	"testing"

	"riddle/api"
	"riddle/check"
	"riddle/insn"
	"riddle/vm"
)

// reckoner is a second machine, by whole numbers of any size that are brought into a word's range behind each step.
type reckoner struct {
	packet []byte
	a, x   *big.Int
	m      map[uint32]*big.Int
	fault  int
}

func number(v uint32) *big.Int { return big.NewInt(int64(v)) }

func wrap(v *big.Int) *big.Int {
	return new(big.Int).Mod(v, big.NewInt(1<<32))
}

// bytesFrom reads size bytes from the exact place on.
func (r *reckoner) bytesFrom(place *big.Int, size int) *big.Int {
	out := new(big.Int)
	for j := range size {
		at := new(big.Int).Add(place, big.NewInt(int64(j)))
		if at.Cmp(big.NewInt(int64(len(r.packet)))) >= 0 {
			r.fault = api.FaultLoad
			return new(big.Int)
		}
		out.Mul(out, big.NewInt(256))
		out.Add(out, big.NewInt(int64(r.packet[at.Int64()])))
	}
	return out
}

func (r *reckoner) scratch(k uint32) *big.Int {
	if v, ok := r.m[k]; ok {
		return v
	}
	return new(big.Int)
}

// calculate does what the codes of ClassAlu do that need a second number.
func (r *reckoner) calculate(code uint16, with *big.Int) *big.Int {
	out := new(big.Int)
	switch code {
	case api.AddK, api.AddX:
		return out.Add(r.a, with)
	case api.SubK, api.SubX:
		return out.Sub(r.a, with)
	case api.MulK, api.MulX:
		return out.Mul(r.a, with)
	case api.OrK, api.OrX:
		return out.Or(r.a, with)
	case api.AndK, api.AndX:
		return out.And(r.a, with)
	case api.XorK, api.XorX:
		return out.Xor(r.a, with)
	}
	if code == api.DivK || code == api.DivX || code == api.ModK || code == api.ModX {
		if with.Sign() == 0 {
			r.fault = api.FaultZero
			return out
		}
		whole, left := new(big.Int).DivMod(r.a, with, new(big.Int))
		if code == api.DivK || code == api.DivX {
			return whole
		}
		return left
	}
	if with.Cmp(big.NewInt(31)) > 0 {
		return out
	}
	power := new(big.Int).Exp(big.NewInt(2), with, nil)
	if code == api.LshK || code == api.LshX {
		return out.Mul(r.a, power)
	}
	return out.Div(r.a, power)
}

// straight does what the instructions do that are neither jumps nor returns.
func (r *reckoner) straight(i api.Insn) {
	k := number(i.K)
	fromX := new(big.Int).Add(r.x, k)
	size := map[uint16]int{api.LdAbsW: 4, api.LdAbsH: 2, api.LdAbsB: 1, api.LdIndW: 4, api.LdIndH: 2, api.LdIndB: 1}[i.Code]
	switch i.Code {
	case api.LdImm:
		r.a = k
	case api.LdAbsW, api.LdAbsH, api.LdAbsB:
		r.a = r.bytesFrom(k, size)
	case api.LdIndW, api.LdIndH, api.LdIndB:
		r.a = r.bytesFrom(fromX, size)
	case api.LdMem:
		r.a = r.scratch(i.K)
	case api.LdLen:
		r.a = big.NewInt(int64(len(r.packet)))
	case api.LdxImm:
		r.x = k
	case api.LdxMem:
		r.x = r.scratch(i.K)
	case api.LdxLen:
		r.x = big.NewInt(int64(len(r.packet)))
	case api.LdxMsh:
		low := new(big.Int).Mod(r.bytesFrom(k, 1), big.NewInt(16))
		r.x = low.Mul(low, big.NewInt(4))
	case api.St:
		r.m[i.K] = r.a
	case api.Stx:
		r.m[i.K] = r.x
	case api.Neg:
		r.a = wrap(new(big.Int).Neg(r.a))
	case api.Tax:
		r.x = r.a
	case api.Txa:
		r.a = r.x
	case api.AddX, api.SubX, api.MulX, api.DivX, api.OrX, api.AndX, api.LshX, api.RshX, api.ModX, api.XorX:
		r.a = wrap(r.calculate(i.Code, r.x))
	default:
		r.a = wrap(r.calculate(i.Code, k))
	}
}

// holds tells the answer to a jump's question.
func (r *reckoner) holds(i api.Insn) bool {
	with := number(i.K)
	switch i.Code {
	case api.JeqX, api.JgtX, api.JgeX, api.JsetX:
		with = r.x
	}
	switch i.Code {
	case api.JeqK, api.JeqX:
		return r.a.Cmp(with) == 0
	case api.JgtK, api.JgtX:
		return r.a.Cmp(with) > 0
	case api.JgeK, api.JgeX:
		return r.a.Cmp(with) >= 0
	}
	return new(big.Int).And(r.a, with).Sign() != 0
}

// reckon is a second reckoning of P5.1 and P5.2, of a program that check takes.
func reckon(p []api.Insn, packet []byte) (api.Verdict, []int) {
	r := &reckoner{packet: packet, a: new(big.Int), x: new(big.Int), m: map[uint32]*big.Int{}}
	var places []int
	for at := 0; ; {
		i := p[at]
		places = append(places, at)
		switch i.Code {
		case api.RetK:
			return api.Verdict{Value: i.K, Steps: len(places)}, places
		case api.RetA:
			return api.Verdict{Value: uint32(r.a.Uint64()), Steps: len(places)}, places
		case api.Ja:
			at += 1 + int(i.K)
		case api.JeqK, api.JeqX, api.JgtK, api.JgtX, api.JgeK, api.JgeX, api.JsetK, api.JsetX:
			if r.holds(i) {
				at += 1 + int(i.Jt)
			} else {
				at += 1 + int(i.Jf)
			}
		default:
			r.straight(i)
			if r.fault != api.FaultNone {
				return api.Verdict{Fault: r.fault, Steps: len(places)}, places
			}
			at++
		}
	}
}

func codes() []uint16 {
	var out []uint16
	for code := range 0x10000 {
		if insn.Known(uint16(code)) {
			out = append(out, uint16(code))
		}
	}
	return out
}

// someK tells a number for an instruction that may stand at place at of n; it has the edges of words, and places about a packet's end.
func someK(r *rand.Rand, code uint16, at, n, size int) uint32 {
	edges := []uint32{0, 1, 2, 3, 15, 16, 31, 32, 1<<31 - 1, 1 << 31, 1<<31 + 1, 1<<32 - 4, 1<<32 - 2, 1<<32 - 1}
	switch code {
	case api.St, api.Stx, api.LdMem, api.LdxMem:
		return uint32(r.Intn(16))
	case api.LshK, api.RshK:
		return uint32(r.Intn(32))
	case api.DivK, api.ModK:
		return 1 + uint32(r.Intn(40))*uint32(r.Intn(1<<16))
	case api.Ja:
		return uint32(r.Intn(min(4, n-1-at)))
	case api.LdAbsW, api.LdAbsH, api.LdAbsB, api.LdIndW, api.LdIndH, api.LdIndB, api.LdxMsh:
		if r.Intn(8) == 0 {
			return edges[r.Intn(len(edges))]
		}
		return uint32(max(0, size-r.Intn(10)))
	}
	switch r.Intn(3) {
	case 0:
		return edges[r.Intn(len(edges))]
	case 1:
		return uint32(r.Intn(8))
	}
	return r.Uint32()
}

// someProgram tells one of n instructions that check takes.
func someProgram(r *rand.Rand, known []uint16, n, size int) []api.Insn {
	p := make([]api.Insn, n)
	for at := range p {
		code := known[r.Intn(len(known))]
		if insn.Class(code) == api.ClassRet && r.Intn(4) != 0 {
			code = api.LdxImm
		}
		if at == n-1 {
			code = []uint16{api.RetK, api.RetA, api.RetA}[r.Intn(3)]
			p[at] = api.Insn{Code: code, K: r.Uint32()}
			break
		}
		i := api.Insn{Code: code, K: someK(r, code, at, n, size)}
		if _, branches, _ := insn.Uses(code); branches {
			i.Jt, i.Jf = uint8(r.Intn(min(6, n-1-at))), uint8(r.Intn(min(6, n-1-at)))
		}
		p[at] = i
	}
	return p
}

func somePacket(r *rand.Rand) []byte {
	b := make([]byte, r.Intn(24))
	r.Read(b)
	return b
}

// TestAgainstReckoning holds runs of programs at random against the second reckoning, and against what P5.3 says of each.
func TestAgainstReckoning(t *testing.T) {
	r := rand.New(rand.NewSource(5))
	known := codes()
	carried := map[uint16]int{}
	faults := map[int]int{}
	for range 60000 {
		packet := somePacket(r)
		p := someProgram(r, known, 1+r.Intn(24), len(packet))
		want, places := reckon(p, packet)
		expect(t, p, packet, want, places)
		reached, e := check.Reach(p)
		if e != api.OK {
			t.Fatalf("no program that check takes: %d", e)
		}
		holdsP53(t, p, packet, reached)
		faults[want.Fault]++
		for _, at := range places {
			carried[p[at].Code]++
		}
		if t.Failed() {
			return
		}
	}
	for _, code := range known {
		if carried[code] < 500 {
			t.Errorf("the code %#x was carried out %d times: too few", code, carried[code])
		}
	}
	for _, f := range []int{api.FaultNone, api.FaultLoad, api.FaultZero} {
		if faults[f] < 3000 {
			t.Errorf("the fault %d came %d times: too few", f, faults[f])
		}
	}
}

// holdsP53 asks what can be asked of vm's own answers.
func holdsP53(t *testing.T, p []api.Insn, packet []byte, reached []bool) {
	t.Helper()
	v, e1 := vm.Run(p, packet)
	places, e2 := vm.Trace(p, packet)
	if e1 != api.OK || e2 != api.OK {
		t.Fatalf("P5.3: refused: %d, %d", e1, e2)
	}
	if v.Steps < 1 || v.Steps > len(p) || len(places) != v.Steps || places[0] != 0 {
		t.Errorf("P5.3: %d instructions: %+v, %v", len(p), v, places)
	}
	for j, at := range places {
		if j > 0 && at <= places[j-1] {
			t.Errorf("P5.3: the places do not rise: %v", places)
		}
		if !reached[at] {
			t.Errorf("P5.3: the place %d: check.Reach does not tell it", at)
		}
	}
	if v.Fault != api.FaultNone && v.Value != 0 {
		t.Errorf("P5.1: a value beside a fault: %+v", v)
	}
}

// TestBytesBehind: where no length is asked for, and no fault was, more bytes turn nothing.
func TestBytesBehind(t *testing.T) {
	r := rand.New(rand.NewSource(53))
	known := slices.DeleteFunc(codes(), func(code uint16) bool { return code == api.LdLen || code == api.LdxLen })
	tried := 0
	for range 40000 {
		packet := somePacket(r)
		p := someProgram(r, known, 1+r.Intn(20), len(packet))
		v, _ := vm.Run(p, packet)
		if v.Fault != api.FaultNone {
			continue
		}
		tried++
		more := append(slices.Clone(packet), somePacket(r)...)
		w, e1 := vm.Run(p, more)
		l, e2 := vm.Trace(p, packet)
		k, e3 := vm.Trace(p, more)
		if v != w || !slices.Equal(l, k) || e1 != api.OK || e2 != api.OK || e3 != api.OK {
			t.Fatalf("P5.3: %v over % x: %+v, with bytes behind it % x: %+v", p, packet, v, more, w)
		}
	}
	if tried < 10000 {
		t.Errorf("only %d runs ended by a return", tried)
	}
}

// TestAnyBytes is T2: what is decoded from bytes is refused, or ends behind at most as many steps as it has instructions.
func TestAnyBytes(t *testing.T) {
	r := rand.New(rand.NewSource(2))
	known := codes()
	taken := 0
	for range 60000 {
		b := make([]byte, 8*r.Intn(6))
		r.Read(b)
		for at := 0; at < len(b); at += 8 {
			if r.Intn(12) == 0 {
				continue // the code as it came
			}
			b[at], b[at+1] = 0, byte(known[r.Intn(len(known))])
			if r.Intn(3) > 0 {
				b[at+2], b[at+3], b[at+4], b[at+5], b[at+6] = b[at+2]&1, b[at+3]&1, 0, 0, 0
			}
		}
		p, e := insn.Decode(b)
		if e != api.OK {
			t.Fatal(e)
		}
		packet := somePacket(r)
		reached, e := check.Reach(p)
		if e != api.OK {
			refuse(t, "what check does not take", p, packet, api.ErrVmProgram)
			continue
		}
		taken++
		holdsP53(t, p, packet, reached)
	}
	if taken < 1000 {
		t.Errorf("check took only %d", taken)
	}
}
