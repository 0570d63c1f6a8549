package plan_test

import (
	"slices"
	"testing"

	"riddle/api"
	"riddle/forge"
	"riddle/frame"
)

// specs tells what frames may be, whatever the link: of all protocols and loads of which filters speak, and of others.
func specs() []api.Spec {
	var out []api.Spec
	for _, next := range []int{1, 6, 17, 58, 99} {
		for _, ports := range [][2]uint32{{53, 54}, {54, 53}, {80, 5060}} {
			ip := api.Spec{Proto: api.ProtoIP, Next: next, Src: [16]byte{1, 2, 3, 4}, Dst: [16]byte{5, 6, 7, 8}, Ports: true, From: ports[0], To: ports[1]}
			ip6 := ip
			ip6.Proto, ip6.Src, ip6.Dst = api.ProtoIP6, [16]byte{1, 2, 15: 9}, [16]byte{5, 6, 15: 10}
			out = append(out, ip, ip6)
		}
		out = append(out, api.Spec{Proto: api.ProtoIP, Next: next}, api.Spec{Proto: api.ProtoIP6, Next: next, Data: []byte{0}})
	}
	for _, proto := range []uint32{api.ProtoLCP, api.ProtoPAP, api.ProtoCHAP, api.ProtoIPCP, api.ProtoIP6CP, api.ProtoMulti, 0x00fd, 0x2021} {
		out = append(out, api.Spec{Proto: proto}, api.Spec{Proto: proto, Data: []byte{1, 2, 3, 4, 5, 6}})
	}
	return out
}

// wellFormed tells frames that are well formed on a link: each spec in each shape that the link lets it have, pieces too.
func wellFormed(l api.Link) [][]byte {
	var out [][]byte
	put := func(s api.Spec) {
		if b, e := forge.Make(l, s); e == api.OK {
			out = append(out, b)
		}
	}
	for n := range 4 {
		wide, long := n&1 == 0, n&2 == 0
		for _, s := range specs() {
			s.Wide, s.Plain = wide, long
			put(s)
			s.Multi, s.Begin, s.End, s.Seq = true, true, wide, 7
			put(s)
		}
		put(api.Spec{Wide: wide, Plain: long, Multi: true, Seq: 7, Data: f()})
		put(api.Spec{Wide: wide, Plain: long, Multi: true, End: true, Seq: 4095})
	}
	return out
}

// others tells frames most of which are ill formed on a link: too short, or with something that may not be where it stands.
func others(l api.Link) [][]byte {
	out := [][]byte{nil, {}, {0}, {0x21}, {0xff}, {0xff, 3}, {0xff, 3, 0}, {0xff, 3, 0, 0x20}, {0xff, 4, 0, 0x21}, {0xff, 3, 0x21}, {0xc0, 0x21}, {0xff, 3, 0xc0, 0x20}, make([]byte, 100), slices.Repeat([]byte{0xff}, 100)}
	for _, b := range wellFormed(l) {
		for _, cut := range []int{1, 2, 3, 5, 8, 20} {
			if cut <= len(b) {
				out = append(out, b[:len(b)-cut])
			}
		}
		for _, place := range []int{0, 1, 2, 3, 4, 5} {
			if place < len(b) {
				turned := slices.Clone(b)
				turned[place] ^= 0x11
				out = append(out, turned)
			}
		}
	}
	return out
}

// frames tells frames that are well formed on a link, those that are on another one, and others.
func frames(l api.Link) [][]byte {
	return slices.Concat(wellFormed(l), others(l), [][]byte{f(), f()[2:], f()[3:]})
}

// framesOfLinks tells the frames of each link that may be.
func framesOfLinks() map[api.Link][][]byte {
	all := map[api.Link][][]byte{}
	for _, l := range links() {
		all[l] = frames(l)
	}
	return all
}

// oneOf tells one of so many frames, by turns.
func oneOf(step, turn int, frames [][]byte) [][]byte {
	var out [][]byte
	for at := turn % step; at < len(frames); at += step {
		out = append(out, frames[at])
	}
	return out
}

// These frames are worth asking for: there are many of each kind on each link.
func TestFramesOfTheseTests(t *testing.T) {
	for _, l := range links() {
		counts := map[string]int{}
		for _, b := range frames(l) {
			v, e := frame.Look(l, b)
			switch {
			case e != api.OK:
				counts["ill"]++
			case v.Multi:
				counts["piece"]++
			default:
				counts["well"]++
			}
		}
		if counts["ill"] < 100 || counts["well"] < 50 || (counts["piece"] < 50) != (l.MP == api.MultiOff) {
			t.Errorf("%+v: %v", l, counts)
		}
	}
}
