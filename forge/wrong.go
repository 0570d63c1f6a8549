package forge

import (
	"riddle/api"
	"riddle/walk"
)

// wrong tells whether the spec asks for what may not be on the link.
func wrong(l api.Link, s api.Spec) bool {
	says := saysProtocol(s)
	isNet := says && (s.Proto == api.ProtoIP || s.Proto == api.ProtoIP6)
	for _, holds := range []func() bool{
		func() bool { return !s.Wide && !l.ACFC },
		func() bool { return s.Multi && (l.MP == api.MultiOff || s.Seq > walk.LayoutOf(l.MP).Seq) },
		func() bool { return !s.Multi && (s.Begin || s.End || s.Seq != 0) },
		// It would be read as a piece.
		func() bool { return !s.Multi && s.Proto == api.ProtoMulti && l.MP != api.MultiOff },
		func() bool { return !says && (s.Proto != 0 || s.Next != 0 || s.Ports) },
		func() bool { return says && !isProtocol(s.Proto) },
		func() bool { return !isNet && (s.Next != 0 || s.Ports || isSetFrom(0, s.Src, s.Dst)) },
		func() bool { return s.Next < 0 || s.Next > 255 },
		func() bool { return s.Proto == api.ProtoIP && isSetFrom(4, s.Src, s.Dst) },
		func() bool { return !s.Ports && (s.From != 0 || s.To != 0) },
		func() bool { return s.From > 65535 || s.To > 65535 },
		// With a byte 03 behind it, it would be read as an address.
		func() bool { return !s.Wide && !s.Multi && s.Proto == 0xff && len(field(l, s, s.Proto)) == 1 },
	} {
		if holds() {
			return true
		}
	}
	return false
}

// saysProtocol tells whether the frame has a protocol of its own: of a frame in pieces only the first one has.
func saysProtocol(s api.Spec) bool {
	return !s.Multi || s.Begin
}

// isProtocol asks that a field of two bytes ends where its reader takes it to end: at the first odd byte.
func isProtocol(proto uint32) bool {
	return proto <= 65535 && proto&1 == 1 && proto>>8&1 == 0
}

// isSetFrom tells whether one of the addresses has a byte that is not 0 from place first on.
func isSetFrom(first int, addresses ...[16]byte) bool {
	for _, a := range addresses {
		for _, c := range a[first:] {
			if c != 0 {
				return true
			}
		}
	}
	return false
}
