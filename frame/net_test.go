package frame_test

import (
	"slices"
	"testing"

	"riddle/api"
	"riddle/frame"
)

// carriers tells what may stand ahead of a load of that protocol, each with a link and the view of it.
func carriers(proto byte) []carrier {
	return []carrier{
		{link("--0"), []byte{0xff, 3, 0, proto}, api.View{At: 4}},
		{link("A-0"), []byte{0, proto}, api.View{At: 2}},
		{link("AP0"), []byte{proto}, api.View{At: 1}},
		{link("-P0"), []byte{0xff, 3, proto}, api.View{At: 3}},
		{link("--1"), []byte{0xff, 3, 0, 0x3d, 0x80, 9, 0, proto}, api.View{Multi: true, Begin: true, Seq: 9, At: 8}},
		{link("AP1"), []byte{0x3d, 0xc1, 9, proto}, api.View{Multi: true, Begin: true, End: true, Seq: 265, At: 4}},
		{link("--2"), []byte{0xff, 3, 0, 0x3d, 0xc0, 1, 0, 9, 0, proto}, api.View{Multi: true, Begin: true, End: true, Seq: 65545, At: 10}},
		{link("AP2"), []byte{0x3d, 0x80, 0, 0, 9, proto}, api.View{Multi: true, Begin: true, Seq: 9, At: 6}},
	}
}

type carrier struct {
	link  api.Link
	ahead []byte
	view  api.View
}

// looked holds what a carrier's frame with that load is answered by; the view's places are counted from the load's beginning, a Load below 0 is none.
func (c carrier) looked(t *testing.T, load []byte, want api.View, wantError api.Errno) {
	t.Helper()
	b := slices.Concat(c.ahead, load)
	view := c.view
	view.Proto, view.Net, view.Next = want.Proto, want.Net, want.Next
	if want.Load >= 0 {
		view.Load = view.At + want.Load
	}
	if wantError != api.OK {
		view = api.View{}
	}
	if v, e := frame.Look(c.link, b); v != view || e != wantError {
		t.Errorf("P7.2: Look(%+v, %x) = %+v, %d; want %+v, %d", c.link, b, v, e, view, wantError)
	}
}

// TestIPAtEveryFirstByte has each first byte, with as many bytes as its header has, and fewer and more.
func TestIPAtEveryFirstByte(t *testing.T) {
	for _, c := range carriers(api.ProtoIP) {
		for first := range 256 {
			for size := range 64 {
				load := make([]byte, size)
				load = slices.Replace(load, 0, min(1, size), []byte{byte(first)}[:min(1, size)]...)
				want, wantError := api.View{Proto: api.ProtoIP, Net: 4, Load: first % 16 * 4}, api.OK
				switch {
				case size < 20:
					wantError = api.ErrFrameShort
				case first < 0x45 || first > 0x4f:
					wantError = api.ErrFrameIP
				case size < first%16*4:
					wantError = api.ErrFrameShort
				}
				c.looked(t, load, want, wantError)
			}
		}
	}
}

// TestIPNext has each number of what IP carries, and marks in all other bytes behind the first.
func TestIPNext(t *testing.T) {
	for _, c := range carriers(api.ProtoIP) {
		for next := range 256 {
			load := slices.Repeat([]byte{0xa5}, 30)
			load[0], load[6], load[7], load[9] = 0x46, 0xe0, 0, byte(next)
			c.looked(t, load, api.View{Proto: api.ProtoIP, Net: 4, Next: next, Load: 24}, api.OK)
		}
	}
}

// TestFragments sets each bit of the two bytes that the offset is in: the three highest are none of its.
func TestFragments(t *testing.T) {
	for _, c := range carriers(api.ProtoIP) {
		for bits := range 1 << 16 {
			if one := bits&(bits-1) == 0; !one && bits&0x1fff != 0x1fff && bits&0x1fff != 0 && bits%977 != 0 {
				continue
			}
			load := make([]byte, 20)
			load[0], load[6], load[7], load[9] = 0x45, byte(bits>>8), byte(bits), 17
			want := api.View{Proto: api.ProtoIP, Net: 4, Next: 17, Load: 20}
			if bits%8192 != 0 {
				want.Load = -1
			}
			c.looked(t, load, want, api.OK)
		}
	}
}

// TestFragmentsAreAskedForTheirHeader has later fragments with too few bytes for it.
func TestFragmentsAreAskedForTheirHeader(t *testing.T) {
	for _, c := range carriers(api.ProtoIP) {
		load := make([]byte, 60)
		load[0], load[7] = 0x4f, 1
		c.looked(t, load, api.View{Proto: api.ProtoIP, Net: 4, Load: -1}, api.OK)
		c.looked(t, load[:59], api.View{}, api.ErrFrameShort)
	}
}

// TestIP6AtEveryFirstByte has each first byte, with 40 bytes, and fewer and more.
func TestIP6AtEveryFirstByte(t *testing.T) {
	for _, c := range carriers(api.ProtoIP6) {
		for first := range 256 {
			for size := range 64 {
				load := make([]byte, size)
				load = slices.Replace(load, 0, min(1, size), []byte{byte(first)}[:min(1, size)]...)
				want, wantError := api.View{Proto: api.ProtoIP6, Net: 6, Load: 40}, api.OK
				switch {
				case size < 40:
					wantError = api.ErrFrameShort
				case first < 0x60 || first > 0x6f:
					wantError = api.ErrFrameIP
				}
				c.looked(t, load, want, wantError)
			}
		}
	}
}

// TestIP6Next has marks in all other bytes behind the first: nothing of IP6 is a fragment.
func TestIP6Next(t *testing.T) {
	for _, c := range carriers(api.ProtoIP6) {
		for next := range 256 {
			load := slices.Repeat([]byte{0xa5}, 44)
			load[0], load[6] = 0x6a, byte(next)
			c.looked(t, load, api.View{Proto: api.ProtoIP6, Net: 6, Next: next, Load: 40}, api.OK)
		}
	}
}

// TestOtherPieces has pieces without Begin that go on like IP and IP6: they are not looked into.
func TestOtherPieces(t *testing.T) {
	for _, l := range multilinks() {
		for _, proto := range []byte{api.ProtoIP, api.ProtoIP6} {
			for size := range 50 {
				for _, first := range []byte{0x45, 0x60, 0x44} {
					load := slices.Repeat([]byte{first}, size)
					b := piece(l.MP, 0x40, 3, append([]byte{0, proto}, load...)...)
					want := api.View{Proto: api.ProtoMulti, Multi: true, End: true, Seq: 3, At: 4 + sizeOf(l.MP)}
					if v, e := frame.Look(l, b); e != api.OK || v != want {
						t.Fatalf("P7.2: Look(%+v, %x) = %+v, %d; want %+v", l, b, v, e, want)
					}
				}
			}
		}
	}
}

// TestOtherProtocols has loads that look like IP and IP6, of protocols that are neither.
func TestOtherProtocols(t *testing.T) {
	for _, proto := range []uint32{api.ProtoIPCP, api.ProtoIP6CP, api.ProtoLCP, api.ProtoPAP, api.ProtoCHAP, 0x0001, 0x0023, 0x0055, 0x0059, 0x2021, 0x4057} {
		for _, first := range []byte{0x45, 0x60} {
			b := slices.Concat([]byte{0xff, 3, byte(proto >> 8), byte(proto), first}, make([]byte, 50))
			for _, l := range links() {
				if v, e := frame.Look(l, b); e != api.OK || v != (api.View{Proto: proto, At: 4}) {
					t.Errorf("P7.2: Look(%+v, %x) = %+v, %d", l, b, v, e)
				}
			}
		}
	}
}
