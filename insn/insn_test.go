package insn_test

import (
	"bytes"
	"slices"
	"testing"

	"riddle/api"
	"riddle/insn"
	"riddle/word"
)

// told is what chapter 2 says of a code.
type told struct {
	number         uint16
	code           uint16
	class          int
	usesK, usesJ   bool
	mayEndByAFault bool
}

// table: each row of chapter 2's table, its numbers as they stand there beside api's names.
func table() []told {
	const yes, no = true, false
	return []told{
		{0x00, api.LdImm, 0, yes, no, no},
		{0x20, api.LdAbsW, 0, yes, no, yes},
		{0x28, api.LdAbsH, 0, yes, no, yes},
		{0x30, api.LdAbsB, 0, yes, no, yes},
		{0x40, api.LdIndW, 0, yes, no, yes},
		{0x48, api.LdIndH, 0, yes, no, yes},
		{0x50, api.LdIndB, 0, yes, no, yes},
		{0x60, api.LdMem, 0, yes, no, no},
		{0x80, api.LdLen, 0, no, no, no},

		{0x01, api.LdxImm, 1, yes, no, no},
		{0x61, api.LdxMem, 1, yes, no, no},
		{0x81, api.LdxLen, 1, no, no, no},
		{0xb1, api.LdxMsh, 1, yes, no, yes},

		{0x02, api.St, 2, yes, no, no},
		{0x03, api.Stx, 3, yes, no, no},

		{0x04, api.AddK, 4, yes, no, no},
		{0x0c, api.AddX, 4, no, no, no},
		{0x14, api.SubK, 4, yes, no, no},
		{0x1c, api.SubX, 4, no, no, no},
		{0x24, api.MulK, 4, yes, no, no},
		{0x2c, api.MulX, 4, no, no, no},
		{0x34, api.DivK, 4, yes, no, no},
		{0x3c, api.DivX, 4, no, no, yes},
		{0x44, api.OrK, 4, yes, no, no},
		{0x4c, api.OrX, 4, no, no, no},
		{0x54, api.AndK, 4, yes, no, no},
		{0x5c, api.AndX, 4, no, no, no},
		{0x64, api.LshK, 4, yes, no, no},
		{0x6c, api.LshX, 4, no, no, no},
		{0x74, api.RshK, 4, yes, no, no},
		{0x7c, api.RshX, 4, no, no, no},
		{0x84, api.Neg, 4, no, no, no},
		{0x94, api.ModK, 4, yes, no, no},
		{0x9c, api.ModX, 4, no, no, yes},
		{0xa4, api.XorK, 4, yes, no, no},
		{0xac, api.XorX, 4, no, no, no},

		{0x05, api.Ja, 5, yes, no, no},
		{0x15, api.JeqK, 5, yes, yes, no},
		{0x1d, api.JeqX, 5, no, yes, no},
		{0x25, api.JgtK, 5, yes, yes, no},
		{0x2d, api.JgtX, 5, no, yes, no},
		{0x35, api.JgeK, 5, yes, yes, no},
		{0x3d, api.JgeX, 5, no, yes, no},
		{0x45, api.JsetK, 5, yes, yes, no},
		{0x4d, api.JsetX, 5, no, yes, no},

		{0x06, api.RetK, 6, yes, no, no},
		{0x16, api.RetA, 6, no, no, no},

		{0x07, api.Tax, 7, no, no, no},
		{0x87, api.Txa, 7, no, no, no},
	}
}

// byNumber: the table's rows by their codes.
func byNumber() map[uint16]told {
	m := map[uint16]told{}
	for _, x := range table() {
		m[x.number] = x
	}
	return m
}

// varied tells n instructions, known and unknown codes among them, no two neighbours alike.
func varied(n int) []api.Insn {
	p := make([]api.Insn, n)
	for i := range p {
		p[i] = api.Insn{Code: uint16(i * 40503), Jt: uint8(i * 7), Jf: uint8(255 - i*11), K: uint32(i) * 2654435761}
	}
	return p
}

// counting tells n bytes, no two neighbours of which are alike.
func counting(n int) []byte {
	b := make([]byte, n)
	for i := range b {
		b[i] = byte(i*7 + i>>8)
	}
	return b
}

// scribbleBytes writes over a list and its spare room, as whoever was handed it may.
func scribbleBytes(b []byte) {
	for i := range b[:cap(b)] {
		b[:cap(b)][i] ^= 0xff
	}
}

// scribbleInsns does so with instructions.
func scribbleInsns(p []api.Insn) {
	for i := range p[:cap(p)] {
		p[:cap(p)][i] = api.Insn{Code: 0xdead, Jt: 0xde, Jf: 0xad, K: 0xdeadbeef}
	}
}

// encode is Encode where it must not refuse.
func encode(t *testing.T, p []api.Insn) []byte {
	t.Helper()
	b, e := insn.Encode(p)
	if e != api.OK {
		t.Fatalf("P2.3: Encode of %d instructions: error %d", len(p), e)
	}
	return b
}

// decode is Decode where it must not refuse.
func decode(t *testing.T, b []byte) []api.Insn {
	t.Helper()
	p, e := insn.Decode(b)
	if e != api.OK {
		t.Fatalf("P2.4: Decode of %d bytes: error %d", len(b), e)
	}
	return p
}

func TestCodesHaveTheNumbersOfTheTable(t *testing.T) {
	for _, x := range table() {
		if x.number != x.code {
			t.Errorf("P2.1: the table says %#x, package api %#x", x.number, x.code)
		}
	}
}

func TestKnownAndClassOfEveryNumber(t *testing.T) {
	want := byNumber()
	count := 0
	for c := range 1 << 16 {
		code := uint16(c)
		x, known := want[code]
		if !known {
			x.class = -1
		}
		if got := insn.Known(code); got != known {
			t.Errorf("P2.1: Known(%#x) = %v", code, got)
		}
		if got := insn.Class(code); got != x.class {
			t.Errorf("P2.1: Class(%#x) = %d; want %d", code, got, x.class)
		}
		if insn.Known(code) {
			count++
		}
	}
	if count != 49 {
		t.Errorf("P2.5: %d codes are known; want 49", count)
	}
}

func TestUsesOfEveryNumber(t *testing.T) {
	want := byNumber()
	for c := range 1 << 16 {
		code := uint16(c)
		x := want[code]
		k, j, fault := insn.Uses(code)
		if k != x.usesK || j != x.usesJ || fault != x.mayEndByAFault {
			t.Errorf("P2.2: Uses(%#x) = %v, %v, %v; want %v, %v, %v", code, k, j, fault, x.usesK, x.usesJ, x.mayEndByAFault)
		}
	}
}

func TestNumbersBesideKnownCodes(t *testing.T) {
	for _, code := range []uint16{0x08, 0x09, 0x0a, 0x0b, 0x0d, 0x0e, 0x0f, 0x10, 0x12, 0x13, 0x17, 0x1e, 0x21, 0x29, 0x38, 0x58, 0x70, 0x82, 0x83, 0x85, 0x86, 0x88, 0x8c, 0xa1, 0xb0, 0xb2, 0xb4, 0xbc, 0xff, 0x100, 0x106, 0x115, 0x128, 0x2800, 0x8000, 0x8006, 0xff06, 0xff28, 0xffff} {
		if insn.Known(code) || insn.Class(code) != -1 {
			t.Errorf("P2.1: %#x: Known %v, Class %d", code, insn.Known(code), insn.Class(code))
		}
		if k, j, fault := insn.Uses(code); k || j || fault {
			t.Errorf("P2.2: Uses(%#x) = %v, %v, %v", code, k, j, fault)
		}
	}
}

func TestEncode(t *testing.T) {
	for _, x := range []struct {
		p    []api.Insn
		want string
	}{
		{nil, ""},
		{[]api.Insn{}, ""},
		{[]api.Insn{{}}, "0000000000000000"},
		{[]api.Insn{{Code: api.JeqK, Jt: 1, Jf: 2, K: 2048}}, "0015010200000800"},
		{[]api.Insn{{Code: api.RetK, K: 4294967295}}, "00060000ffffffff"},
		{[]api.Insn{{Code: 0x1234, Jt: 0x56, Jf: 0x78, K: 0x9abcdef0}}, "123456789abcdef0"},
		{[]api.Insn{{Code: 0xffff, Jt: 255, Jf: 255, K: 0xffffffff}}, "ffffffffffffffff"},
		{[]api.Insn{{Code: 0x0008, Jt: 255, K: 1}, {Code: api.Txa, Jf: 255, K: 1 << 31}}, "0008ff0000000001" + "008700ff80000000"},
		{[]api.Insn{{Code: api.LdLen, Jt: 3, Jf: 4, K: 5}, {Code: api.RetA}}, "0080030400000005" + "0016000000000000"},
	} {
		b, e := insn.Encode(x.p)
		if e != api.OK || word.Hex(b) != x.want {
			t.Errorf("P2.3: Encode(%v) = %x, %d; want %s", x.p, b, e, x.want)
		}
	}
}

func TestEncodeAtItsLimit(t *testing.T) {
	p := varied(api.MaxProgram + 1)
	if b := encode(t, p[:api.MaxProgram]); len(b) != 8*api.MaxProgram {
		t.Errorf("P2.3: Encode of MaxProgram instructions: %d bytes", len(b))
	}
	if b, e := insn.Encode(p); e != api.ErrInsnMany || len(b) != 0 {
		t.Errorf("P2.3: Encode of one more: %d bytes, %d", len(b), e)
	}
	if b, e := insn.Encode(varied(1 << 18)); e != api.ErrInsnMany || len(b) != 0 {
		t.Errorf("P2.3: Encode of many more: %d bytes, %d", len(b), e)
	}
}

func TestDecode(t *testing.T) {
	for _, x := range []struct {
		text string
		want []api.Insn
	}{
		{"", nil},
		{"00060000ffffffff", []api.Insn{{Code: api.RetK, K: 4294967295}}},
		{"0015010200000800", []api.Insn{{Code: api.JeqK, Jt: 1, Jf: 2, K: 2048}}},
		{"123456789abcdef0", []api.Insn{{Code: 0x1234, Jt: 0x56, Jf: 0x78, K: 0x9abcdef0}}},
		{"0008ff0000000001008700ff80000000", []api.Insn{{Code: 0x0008, Jt: 255, K: 1}, {Code: api.Txa, Jf: 255, K: 1 << 31}}},
	} {
		b, _ := word.Unhex(x.text)
		p, e := insn.Decode(b)
		if e != api.OK || !slices.Equal(p, x.want) {
			t.Errorf("P2.4: Decode(%s) = %v, %d; want %v", x.text, p, e, x.want)
		}
	}
	if p, e := insn.Decode(nil); e != api.OK || len(p) != 0 {
		t.Errorf("P2.4: Decode(nil) = %v, %d", p, e)
	}
}

func TestDecodeRefusesTheWrongNumberOfBytes(t *testing.T) {
	const most = 8 * api.MaxProgram
	for _, x := range []struct {
		n    int
		want api.Errno
	}{
		{0, api.OK}, {8, api.OK}, {16, api.OK}, {most - 8, api.OK}, {most, api.OK},
		{1, api.ErrInsnBytes}, {2, api.ErrInsnBytes}, {4, api.ErrInsnBytes}, {7, api.ErrInsnBytes},
		{9, api.ErrInsnBytes}, {12, api.ErrInsnBytes}, {15, api.ErrInsnBytes},
		{most - 7, api.ErrInsnBytes}, {most - 1, api.ErrInsnBytes},
		{most + 8, api.ErrInsnMany}, {most + 16, api.ErrInsnMany}, {2 * most, api.ErrInsnMany},
		{most + 1, api.ErrInsnBytes}, {most + 4, api.ErrInsnBytes}, {most + 7, api.ErrInsnBytes}, {most + 9, api.ErrInsnBytes}, {2*most + 4, api.ErrInsnBytes},
	} {
		p, e := insn.Decode(counting(x.n))
		if e != x.want || e == api.OK && len(p) != x.n/8 || e != api.OK && len(p) != 0 {
			t.Errorf("P2.4: Decode of %d bytes: %d instructions, %d; want error %d", x.n, len(p), e, x.want)
		}
	}
}

func TestDecodeOfEncode(t *testing.T) {
	for _, n := range []int{0, 1, 2, 3, 100, api.MaxProgram} {
		p := varied(n)
		if q := decode(t, encode(t, p)); !slices.Equal(q, p) {
			t.Errorf("P2.5: Decode of Encode of %d instructions is another program", n)
		}
	}
	for _, x := range table() {
		p := []api.Insn{{Code: x.code, Jt: 1, Jf: 254, K: 0x80000001}}
		if q := decode(t, encode(t, p)); !slices.Equal(q, p) {
			t.Errorf("P2.5: Decode of Encode of %v = %v", p, q)
		}
	}
}

func TestEncodeOfDecode(t *testing.T) {
	for _, n := range []int{0, 8, 16, 800, 8 * api.MaxProgram} {
		b := counting(n)
		if c := encode(t, decode(t, b)); !bytes.Equal(c, b) {
			t.Errorf("P2.5: Encode of Decode of %d bytes is not these bytes", n)
		}
	}
}

func TestOneBehindTheOther(t *testing.T) {
	p := varied(9)
	b := counting(72)
	for cut := range 10 {
		parts := word.Join(encode(t, p[:cut]), encode(t, p[cut:]))
		if whole := encode(t, p); !bytes.Equal(parts, whole) {
			t.Errorf("P2.5: Encode in two parts, %d ahead: %x; whole: %x", cut, parts, whole)
		}
		two := append(decode(t, b[:8*cut]), decode(t, b[8*cut:])...)
		if whole := decode(t, b); !slices.Equal(two, whole) {
			t.Errorf("P2.5: Decode in two parts, %d ahead: %v; whole: %v", cut, two, whole)
		}
	}
}

func TestEncodeLeavesAndKeepsNothing(t *testing.T) {
	whole := varied(6)
	before := slices.Clone(whole)
	p := whole[:4]
	first, second := encode(t, p), encode(t, p)
	want := slices.Clone(second)
	if len(first) != 32 {
		t.Errorf("R3: Encode read behind its list's end: %d bytes", len(first))
	}
	if behind := encode(t, whole[4:]); bytes.Contains(first[:cap(first)], behind[:8]) {
		t.Errorf("R3: Encode handed out what lay behind the end: %x", first[:cap(first)])
	}
	scribbleBytes(first)
	if !slices.Equal(whole, before) {
		t.Errorf("R3: Encode's program became %v", whole)
	}
	scribbleInsns(whole)
	if !bytes.Equal(second, want) {
		t.Errorf("R3: Encode's answer shares memory with another or with its argument: %x", second)
	}
}

func TestDecodeLeavesAndKeepsNothing(t *testing.T) {
	whole := counting(48)
	before := slices.Clone(whole)
	b := whole[:32]
	first, second := decode(t, b), decode(t, b)
	want := slices.Clone(second)
	if len(first) != 4 {
		t.Errorf("R3: Decode read behind its list's end: %d instructions", len(first))
	}
	for _, behind := range decode(t, whole[32:]) {
		if slices.Contains(first[:cap(first)], behind) {
			t.Errorf("R3: Decode handed out what lay behind the end: %v", first[:cap(first)])
		}
	}
	scribbleInsns(first)
	if !bytes.Equal(whole, before) {
		t.Errorf("R3: Decode's bytes became %x", whole)
	}
	scribbleBytes(whole)
	if !slices.Equal(second, want) {
		t.Errorf("R3: Decode's answer shares memory with another or with its argument: %v", second)
	}
}

func TestRefusedCallsLeaveWhatTheyWereGiven(t *testing.T) {
	p := varied(api.MaxProgram + 1)
	beforeP := slices.Clone(p)
	insn.Encode(p)
	if !slices.Equal(p, beforeP) {
		t.Error("R3: a refused Encode changed its program")
	}
	for _, n := range []int{7, 8*api.MaxProgram + 8} {
		b := counting(n + 9)
		before := slices.Clone(b)
		insn.Decode(b[:n])
		if !bytes.Equal(b, before) {
			t.Errorf("R3: a refused Decode changed its %d bytes", n)
		}
	}
	if q, e := insn.Decode(counting(16)[:12]); e != api.ErrInsnBytes || len(q) != 0 {
		t.Errorf("R3: Decode took bytes behind its list's end: %v, %d", q, e)
	}
}
