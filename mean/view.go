package mean

import (
	"bytes"

	"riddle/api"
	"riddle/word"
)

// teller is what nodes ask of a frame.
type teller interface {
	length() uint32
	goes(way int) bool
	speaks(proto uint32) bool
	is(of int) bool                                       // what the word of that name says
	carries(of int, next uint32) bool                     // whether it is of IP or IP6, with that next header
	base(of int) (place int, there bool)                  // where that begins of which a load speaks
	number(place uint64, size int) (v uint32, there bool) // what the bytes from a place on say
	alike(place int, address []byte, bits int) bool       // whether an address begins there that is the same in its first bits
}

// view is a well-formed frame that goes one way.
type view struct {
	api.View
	way   int
	frame []byte
}

func (v view) length() uint32           { return uint32(len(v.frame)) }
func (v view) goes(way int) bool        { return v.way == way }
func (v view) speaks(proto uint32) bool { return v.Proto == proto }

func (v view) is(of int) bool {
	switch of {
	case api.OfIP:
		return v.Net == 4
	case api.OfIP6:
		return v.Net == 6
	case api.OfTCP:
		return v.Net != 0 && v.Next == api.NextTCP
	case api.OfUDP:
		return v.Net != 0 && v.Next == api.NextUDP
	case api.OfICMP:
		return v.Net == 4 && v.Next == api.NextICMP
	case api.OfICMP6:
		return v.Net == 6 && v.Next == api.NextICMP6
	case api.OfLCP:
		return v.Proto == api.ProtoLCP
	case api.OfPAP:
		return v.Proto == api.ProtoPAP
	case api.OfCHAP:
		return v.Proto == api.ProtoCHAP
	case api.OfIPCP:
		return v.Proto == api.ProtoIPCP
	case api.OfIP6CP:
		return v.Proto == api.ProtoIP6CP
	case api.OfMP:
		return v.Multi
	}
	return false
}

func (v view) carries(of int, next uint32) bool {
	return v.is(of) && uint32(v.Next) == next
}

func (v view) base(of int) (int, bool) {
	switch of {
	case api.OfPPP:
		return 0, true
	case api.OfTCP, api.OfUDP, api.OfICMP, api.OfICMP6:
		// A later fragment carries it, but not its beginning.
		return v.Load, v.is(of) && v.Load != 0
	}
	return v.At, v.is(of)
}

func (v view) number(place uint64, size int) (uint32, bool) {
	// Held against the frame's end while it is wide: as an int, the place could wrap.
	if place >= uint64(len(v.frame)) {
		return 0, false
	}
	return word.Get(v.frame, int(place), size)
}

func (v view) alike(place int, address []byte, bits int) bool {
	own := v.frame[place : place+len(address)]
	whole, rest := bits/8, bits%8
	if !bytes.Equal(own[:whole], address[:whole]) {
		return false
	}
	return rest == 0 || (own[whole]^address[whole])>>(8-rest) == 0
}
