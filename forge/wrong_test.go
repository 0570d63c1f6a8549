package forge_test

import (
	"math"
	"testing"

	"riddle/api"
)

// onEach asks hold of all links whose MP is one of these.
func onEach(hold func(l api.Link), mps ...int) {
	for _, l := range links() {
		for _, mp := range mps {
			if l.MP == mp {
				hold(l)
			}
		}
	}
}

// either holds that a spec is refused, or that it is taken.
func either(t *testing.T, l api.Link, s api.Spec, isWrong bool) {
	t.Helper()
	if isWrong {
		refused(t, l, s, api.ErrForgeSpec)
	} else {
		taken(t, l, s)
	}
}

func TestAddressLeftOut(t *testing.T) {
	for _, s := range []api.Spec{{Proto: 0xc021}, {Proto: 0x21, Next: 1}, {Plain: true, Proto: 0x57}, {Multi: true}, {Multi: true, Begin: true, Proto: 0xff}} {
		onEach(func(l api.Link) {
			if s.Multi && l.MP == api.MultiOff {
				return
			}
			either(t, l, s, !l.ACFC)
			wide := s
			wide.Wide = true
			taken(t, l, wide)
		}, 0, 1, 2)
	}
}

func TestPieceAndLink(t *testing.T) {
	for _, s := range []api.Spec{{Multi: true}, {Multi: true, End: true}, {Multi: true, Begin: true, Proto: 0x21}, {Multi: true, Begin: true, End: true, Proto: 0xc021}} {
		s.Wide = true
		for _, seq := range []uint32{0, 1, 255, 256, 4094, 4095, 4096, 4097, 8191, 8192, 16384, 32768, 65535, 65536, 1<<24 - 2, 1<<24 - 1, 1 << 24, 1<<24 + 1, 1 << 25, 1 << 30, 1 << 31, math.MaxUint32} {
			s.Seq = seq
			onEach(func(l api.Link) { refused(t, l, s, api.ErrForgeSpec) }, 0)
			onEach(func(l api.Link) { either(t, l, s, seq > greatest(l.MP)) }, 1, 2)
		}
	}
}

func TestNoPiece(t *testing.T) {
	for _, proto := range []uint32{0xc021, 0x21, 0x57} {
		onEach(func(l api.Link) {
			taken(t, l, api.Spec{Wide: true, Proto: proto})
			refused(t, l, api.Spec{Wide: true, Proto: proto, Begin: true}, api.ErrForgeSpec)
			refused(t, l, api.Spec{Wide: true, Proto: proto, End: true}, api.ErrForgeSpec)
			for _, seq := range []uint32{1, 4095, 1 << 12, 1 << 24, 1 << 31, math.MaxUint32} {
				refused(t, l, api.Spec{Wide: true, Proto: proto, Seq: seq}, api.ErrForgeSpec)
			}
		}, 0, 1, 2)
	}
}

func TestMultiAsProtocol(t *testing.T) {
	for _, plain := range []bool{false, true} {
		onEach(func(l api.Link) {
			either(t, l, api.Spec{Wide: true, Plain: plain, Proto: api.ProtoMulti}, l.MP != api.MultiOff)
			if l.MP != api.MultiOff {
				taken(t, l, api.Spec{Wide: true, Plain: plain, Multi: true, Begin: true, Proto: api.ProtoMulti})
			}
		}, 0, 1, 2)
	}
}

// TestPieceThatSaysMore sets one thing at a time that a piece without Begin may not say.
func TestPieceThatSaysMore(t *testing.T) {
	for _, more := range []func(s *api.Spec){
		func(s *api.Spec) { s.Proto = 0x21 },
		func(s *api.Spec) { s.Proto = 0x57 },
		func(s *api.Spec) { s.Proto = 0xc021 },
		func(s *api.Spec) { s.Proto = api.ProtoMulti },
		func(s *api.Spec) { s.Proto = 1 << 31 },
		func(s *api.Spec) { s.Proto = 2 },
		func(s *api.Spec) { s.Next = 1 },
		func(s *api.Spec) { s.Next = -1 },
		func(s *api.Spec) { s.Next = 256 },
		func(s *api.Spec) { s.Ports = true },
		func(s *api.Spec) { s.Ports, s.From, s.To = true, 1, 2 },
		func(s *api.Spec) { s.Src = address(1) },
		func(s *api.Spec) { s.Src[15] = 1 },
		func(s *api.Spec) { s.Dst = address(0, 0, 0, 1) },
		func(s *api.Spec) { s.Dst[15] = 128 },
		func(s *api.Spec) { s.From = 1 },
		func(s *api.Spec) { s.To = 65535 },
	} {
		for _, right := range []api.Spec{{Wide: true, Multi: true}, {Wide: true, Multi: true, End: true, Seq: 5, Data: []byte{1}}} {
			onEach(func(l api.Link) {
				taken(t, l, right)
				s := right
				more(&s)
				refused(t, l, s, api.ErrForgeSpec)
			}, 1, 2)
		}
	}
}

// TestEveryProtocol has each number of 16 bits, of a piece and of none, and some that are greater.
func TestEveryProtocol(t *testing.T) {
	hold := func(proto uint32, isWrong bool) {
		either(t, link("-P0"), api.Spec{Wide: true, Proto: proto}, isWrong)
		either(t, link("--1"), api.Spec{Wide: true, Multi: true, Begin: true, Proto: proto}, isWrong)
	}
	for high := range uint32(256) {
		for low := range uint32(256) {
			hold(high*256+low, high%2 == 1 || low%2 == 0)
		}
	}
	for _, proto := range []uint32{65536, 65537, 0x10021, 0x1c021, 0x20021, 0x1000021, 0x80000021, math.MaxUint32, math.MaxUint32 - 256} {
		hold(proto, true)
	}
}

// bySpec sets what only IP and IP6 have, one thing at a time.
func bySpec() []func(s *api.Spec) {
	return []func(s *api.Spec){
		func(s *api.Spec) { s.Next = 1 },
		func(s *api.Spec) { s.Next = 255 },
		func(s *api.Spec) { s.Src[0] = 1 },
		func(s *api.Spec) { s.Src[3] = 255 },
		func(s *api.Spec) { s.Dst[0] = 1 },
		func(s *api.Spec) { s.Dst[3] = 255 },
		func(s *api.Spec) { s.Ports = true },
		func(s *api.Spec) { s.Ports, s.From = true, 65535 },
		func(s *api.Spec) { s.Ports, s.To = true, 65535 },
	}
}

func TestNetworkOfOtherProtocols(t *testing.T) {
	for _, set := range bySpec() {
		for _, proto := range []uint32{api.ProtoIP, api.ProtoIP6, api.ProtoIPCP, api.ProtoIP6CP, api.ProtoLCP, api.ProtoPAP, api.ProtoCHAP, 0x01, 0x23, 0x55, 0xff, 0x2021, 0x0257} {
			s := api.Spec{Wide: true, Proto: proto}
			set(&s)
			isNet := proto == api.ProtoIP || proto == api.ProtoIP6
			onEach(func(l api.Link) { either(t, l, s, !isNet) }, 0, 1, 2)
			s.Multi, s.Begin = true, true
			onEach(func(l api.Link) { either(t, l, s, !isNet) }, 1, 2)
		}
		s := api.Spec{Wide: true, Proto: api.ProtoMulti}
		set(&s)
		onEach(func(l api.Link) { refused(t, l, s, api.ErrForgeSpec) }, 0)
	}
	for at := range 16 {
		var one [16]byte
		one[at] = 1
		refused(t, link("--0"), api.Spec{Wide: true, Proto: api.ProtoLCP, Src: one}, api.ErrForgeSpec)
		refused(t, link("--0"), api.Spec{Wide: true, Proto: api.ProtoLCP, Dst: one}, api.ErrForgeSpec)
	}
}

func TestNext(t *testing.T) {
	for _, next := range []int{math.MinInt, -1 << 32, -256, -255, -1, 0, 1, 6, 127, 128, 255, 256, 257, 262, 65536, 1 << 32, 1<<32 + 6, math.MaxInt} {
		for _, proto := range []uint32{api.ProtoIP, api.ProtoIP6} {
			onEach(func(l api.Link) {
				either(t, l, api.Spec{Wide: true, Proto: proto, Next: next}, next < 0 || next > 255)
			}, 0, 1, 2)
		}
		either(t, link("--0"), api.Spec{Wide: true, Proto: api.ProtoLCP, Next: next}, next != 0)
	}
}

// TestAddressBytes sets each byte of an address by itself: IP has only the first four.
func TestAddressBytes(t *testing.T) {
	for at := range 16 {
		for _, c := range []byte{1, 128, 255} {
			one := address(1, 2, 3, 4)
			one[at] = c
			for _, l := range links() {
				for _, multi := range []bool{false, l.MP != api.MultiOff} {
					either(t, l, api.Spec{Wide: true, Multi: multi, Begin: multi, Proto: api.ProtoIP, Src: one}, at >= 4)
					either(t, l, api.Spec{Wide: true, Multi: multi, Begin: multi, Proto: api.ProtoIP, Dst: one}, at >= 4)
					taken(t, l, api.Spec{Wide: true, Multi: multi, Begin: multi, Proto: api.ProtoIP6, Src: one})
					taken(t, l, api.Spec{Wide: true, Multi: multi, Begin: multi, Proto: api.ProtoIP6, Dst: one})
				}
			}
		}
	}
}

func TestPorts(t *testing.T) {
	for _, port := range []uint32{0, 1, 255, 256, 65534, 65535, 65536, 65537, 1 << 17, 1 << 31, math.MaxUint32} {
		for _, proto := range []uint32{api.ProtoIP, api.ProtoIP6, api.ProtoLCP} {
			onEach(func(l api.Link) {
				either(t, l, api.Spec{Wide: true, Proto: proto, From: port}, port != 0)
				either(t, l, api.Spec{Wide: true, Proto: proto, To: port}, port != 0)
				isWrong := proto == api.ProtoLCP || port > 65535
				either(t, l, api.Spec{Wide: true, Proto: proto, Ports: true, From: port}, isWrong)
				either(t, l, api.Spec{Wide: true, Proto: proto, Ports: true, To: port}, isWrong)
				either(t, l, api.Spec{Wide: true, Proto: proto, Next: 0, Ports: true, From: port, To: port}, isWrong)
			}, 0, 1, 2)
		}
	}
}

// TestFirstByte has the one protocol whose field of one byte could be taken for an address.
func TestFirstByte(t *testing.T) {
	for _, l := range links() {
		if !l.ACFC {
			continue
		}
		for _, data := range [][]byte{nil, {3}, {4}} {
			either(t, l, api.Spec{Proto: 0xff, Data: data}, l.PFC)
			taken(t, l, api.Spec{Plain: true, Proto: 0xff, Data: data})
			taken(t, l, api.Spec{Wide: true, Proto: 0xff, Data: data})
			taken(t, l, api.Spec{Proto: 0xfd, Data: data})
			taken(t, l, api.Spec{Proto: 0x2ff, Data: data})
			if l.MP != api.MultiOff {
				taken(t, l, api.Spec{Multi: true, Begin: true, Proto: 0xff, Data: data})
			}
		}
	}
}

// TestTwoErrors has specs that are wrong and too long at once.
func TestTwoErrors(t *testing.T) {
	for _, size := range []int{api.MaxFrame - 3, api.MaxFrame, api.MaxFrame + 1, 1 << 20} {
		data := make([]byte, size)
		refused(t, link("--0"), api.Spec{Wide: true, Proto: 0xc021, Data: data}, api.ErrForgeLong)
		for _, s := range []api.Spec{
			{Proto: 0xc021}, {Wide: true, Multi: true}, {Wide: true, Proto: 0x21, Seq: 1}, {Wide: true, Proto: 2}, {Wide: true, Proto: 0x10021},
			{Wide: true, Proto: 0xc021, Next: 1}, {Wide: true, Proto: 0x21, Next: 256}, {Wide: true, Proto: 0x21, Src: address(1, 2, 3, 4, 5)},
			{Wide: true, Proto: 0x57, From: 1}, {Wide: true, Proto: 0x57, Ports: true, To: 65536},
		} {
			s.Data = data
			refused(t, link("--0"), s, api.ErrForgeSpec)
		}
		refused(t, link("AP0"), api.Spec{Proto: 0xff, Data: data}, api.ErrForgeSpec)
		refused(t, link("AP1"), api.Spec{Multi: true, Seq: 4096, Data: data}, api.ErrForgeSpec)
		refused(t, link("AP1"), api.Spec{Multi: true, Proto: 0x21, Data: data}, api.ErrForgeSpec)
		refused(t, link("AP2"), api.Spec{Proto: 0x3d, Data: data}, api.ErrForgeSpec)
	}
}
