package frame_test

import (
	"testing"

	"riddle/api"
	"riddle/frame"
)

// header tells a multilink header: the flags are Begin, End and the bits that must be 0, the highest first.
func header(mp int, flags byte, seq uint32) []byte {
	if mp == api.MultiShort {
		return []byte{flags | byte(seq>>8), byte(seq)}
	}
	return []byte{flags, byte(seq >> 16), byte(seq >> 8), byte(seq)}
}

// piece tells a frame with a multilink header and what stands behind it.
func piece(mp int, flags byte, seq uint32, behind ...byte) []byte {
	out := append([]byte{0xff, 3, 0, 0x3d}, header(mp, flags, seq)...)
	return append(out, behind...)
}

// multilinks tells the links that have multilink.
func multilinks() []api.Link {
	return links()[4:]
}

func sizeOf(mp int) int {
	return 2 * mp
}

func greatest(mp int) uint32 {
	if mp == api.MultiShort {
		return 4095
	}
	return 1<<24 - 1
}

func TestMultiWithoutMultilink(t *testing.T) {
	for _, l := range links()[:4] {
		for _, behind := range [][]byte{nil, {0x80}, {0xff, 0xff}, {0x80, 0, 0x21}, {0xff, 0xff, 0xff, 0xff, 2, 2}} {
			b := append([]byte{0xff, 3, 0, 0x3d}, behind...)
			if v, e := frame.Look(l, b); e != api.OK || v != (api.View{Proto: api.ProtoMulti, At: 4}) {
				t.Errorf("P7.2: Look(%+v, %x) = %+v, %d", l, b, v, e)
			}
		}
	}
}

func TestHeaderOfTooFewBytes(t *testing.T) {
	for _, l := range multilinks() {
		whole := piece(l.MP, 0xff, 1)
		for size := 4; size < len(whole); size++ {
			if v, e := frame.Look(l, whole[:size]); e != api.ErrFrameShort || v != (api.View{}) {
				t.Errorf("P7.2: Look(%+v, %x) = %+v, %d", l, whole[:size], v, e)
			}
		}
	}
}

// TestHeaderAtEveryFlag has each first byte of a header, with the least and the greatest number.
func TestHeaderAtEveryFlag(t *testing.T) {
	for _, l := range multilinks() {
		noughts := byte(0x30)
		if l.MP == api.MultiLong {
			noughts = 0x3f
		}
		for flags := range 256 {
			for _, low := range []uint32{0, 1, 0xff, greatest(l.MP)} {
				b := piece(l.MP, byte(flags), low, 0xc0, 0x21, 0xaa)
				seq := low
				if l.MP == api.MultiShort {
					seq |= uint32(flags&0x0f) << 8
				}
				want, wantError := api.View{Proto: api.ProtoMulti, Multi: true, End: flags&0x40 != 0, Seq: seq, At: 4 + sizeOf(l.MP)}, api.OK
				if flags&0x80 != 0 {
					want.Begin, want.Proto, want.At = true, 0xc021, want.At+2
				}
				if byte(flags)&noughts != 0 {
					want, wantError = api.View{}, api.ErrFrameMulti
				}
				if v, e := frame.Look(l, b); v != want || e != wantError {
					t.Fatalf("P7.2: Look(%+v, %x) = %+v, %d; want %+v, %d", l, b, v, e, want, wantError)
				}
			}
		}
	}
}

// TestNumberAtEveryBit sets each bit of the number in turn.
func TestNumberAtEveryBit(t *testing.T) {
	for _, l := range multilinks() {
		for seq := uint32(1); seq <= greatest(l.MP); seq <<= 1 {
			for _, s := range []uint32{seq, greatest(l.MP) ^ seq} {
				want := api.View{Proto: api.ProtoMulti, Multi: true, Seq: s, At: 4 + sizeOf(l.MP)}
				if v, e := frame.Look(l, piece(l.MP, 0, s)); e != api.OK || v != want {
					t.Errorf("P7.2: Look(%+v, a piece of number %d) = %+v, %d; want %+v", l, s, v, e, want)
				}
			}
		}
	}
}

// TestBehindABeginning has what may stand where a piece's own protocol is looked for.
func TestBehindABeginning(t *testing.T) {
	for _, x := range []struct {
		behind     []byte
		proto      uint32
		size       int
		e          api.Errno
		compressed bool
	}{
		{nil, 0, 0, api.ErrFrameShort, false},
		{[]byte{0}, 0, 0, api.ErrFrameShort, false},
		{[]byte{0, 0}, 0, 0, api.ErrFrameProto, false},
		{[]byte{0xc0, 0x20}, 0, 0, api.ErrFrameProto, false},
		{[]byte{0xc0, 0x21}, 0xc021, 2, api.OK, false},
		{[]byte{0, 0x3d}, api.ProtoMulti, 2, api.OK, false},
		{[]byte{0, 0x3d, 0xff, 0xff, 0xff, 0xff}, api.ProtoMulti, 2, api.OK, false},
		{[]byte{0x3d}, api.ProtoMulti, 1, api.OK, true},
		{[]byte{0x3d, 0xff, 0xff, 0xff, 0xff}, api.ProtoMulti, 1, api.OK, true},
		{[]byte{0xff, 3, 0xc0, 0x21}, 0xff, 1, api.OK, true},
	} {
		for _, l := range multilinks() {
			for _, flags := range []byte{0x80, 0xc0} {
				b := piece(l.MP, flags, 5, x.behind...)
				want, wantError := api.View{Proto: x.proto, Multi: true, Begin: true, End: flags == 0xc0, Seq: 5, At: 4 + sizeOf(l.MP) + x.size}, x.e
				if x.compressed && !l.PFC {
					wantError = api.ErrFrameProto
				}
				if wantError != api.OK {
					want = api.View{}
				}
				if v, e := frame.Look(l, b); v != want || e != wantError {
					t.Errorf("P7.2: Look(%+v, %x) = %+v, %d; want %+v, %d", l, b, v, e, want, wantError)
				}
			}
			for _, flags := range []byte{0, 0x40} {
				b := piece(l.MP, flags, 5, x.behind...)
				want := api.View{Proto: api.ProtoMulti, Multi: true, End: flags == 0x40, Seq: 5, At: 4 + sizeOf(l.MP)}
				if v, e := frame.Look(l, b); v != want || e != api.OK {
					t.Errorf("P7.2: Look(%+v, %x) = %+v, %d; want %+v", l, b, v, e, want)
				}
			}
		}
	}
}

// TestHeaderCountsFirst has headers with bits that must be 0, with nothing behind them, or what is wrong.
func TestHeaderCountsFirst(t *testing.T) {
	for _, l := range multilinks() {
		for _, behind := range [][]byte{nil, {0}, {0, 0}, {0, 0x21, 0x55}} {
			b := piece(l.MP, 0x90, 5, behind...)
			if v, e := frame.Look(l, b); e != api.ErrFrameMulti || v != (api.View{}) {
				t.Errorf("P7.2: Look(%+v, %x) = %+v, %d", l, b, v, e)
			}
		}
	}
}

// TestPiecesOfOneByteFields has pieces whose protocol field, and the address, are left out where they may be.
func TestPiecesOfOneByteFields(t *testing.T) {
	seen(t, "AP1", "3d 40 01", api.View{Proto: 0x3d, Multi: true, End: true, Seq: 1, At: 3})
	seen(t, "AP1", "3d c0 01 c1", api.View{Proto: 0xc1, Multi: true, Begin: true, End: true, Seq: 1, At: 4})
	seen(t, "AP2", "3d 80 01 02 03 c1", api.View{Proto: 0xc1, Multi: true, Begin: true, Seq: 0x10203, At: 6})
	seen(t, "A-2", "00 3d 80 01 02 03 c0 21", api.View{Proto: 0xc021, Multi: true, Begin: true, Seq: 0x10203, At: 8})
	seen(t, "AP2", "00 3d 00 00 00 00", api.View{Proto: 0x3d, Multi: true, At: 6})
	refused(t, "AP1", "3d", api.ErrFrameShort)
	refused(t, "AP1", "3d 80", api.ErrFrameShort)
	refused(t, "A-1", "3d 80 01 c0 21", api.ErrFrameProto)
}
