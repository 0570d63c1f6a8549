package compile_test

import (
	"slices"

	"riddle/api"
	"riddle/frame"
)

// fields tells the fields that say a protocol on a link.
func fields(link api.Link, proto uint32) [][]byte {
	out := [][]byte{{byte(proto >> 8), byte(proto)}}
	if link.PFC && proto < 256 {
		out = append(out, []byte{byte(proto)})
	}
	return out
}

// headers tells multilink headers of a link: of pieces that begin, and of others.
func headers(link api.Link) (begin, later [][]byte) {
	switch link.MP {
	case api.MultiShort:
		return [][]byte{{0x80, 7}, {0xcf, 0xff}}, [][]byte{{0, 7}, {0x40, 0}}
	case api.MultiLong:
		return [][]byte{{0x80, 0, 0, 7}, {0xc0, 0xff, 0xff, 0xff}}, [][]byte{{0, 0, 0, 7}, {0x40, 0, 1, 2}}
	}
	return nil, nil
}

// aheads tells all that may stand ahead of a load of a protocol on a link: with and without address and control, in a piece and in none.
func aheads(link api.Link, proto uint32) [][]byte {
	addresses := [][]byte{{0xff, 3}}
	if link.ACFC {
		addresses = append(addresses, nil)
	}
	begin, later := headers(link)
	var out [][]byte
	for _, address := range addresses {
		for _, inner := range fields(link, proto) {
			if link.MP == api.MultiOff || proto != api.ProtoMulti {
				out = append(out, joined(address, inner))
			}
			for _, field := range fields(link, api.ProtoMulti) {
				for _, header := range begin {
					out = append(out, joined(address, field, header, inner))
				}
				for _, header := range later {
					out = append(out, joined(address, field, header))
				}
			}
		}
	}
	return out
}

// headerIP tells a header of IP of so many words, with that fragment offset and next header; its addresses are 1.2.3.4 and 5.6.7.8.
func headerIP(words, offset, next int) []byte {
	b := make([]byte, 4*words)
	b[0], b[6], b[7], b[9] = byte(0x40+words), byte(0x20|offset>>8), byte(offset), byte(next)
	copy(b[12:], []byte{1, 2, 3, 4, 5, 6, 7, 8})
	return b
}

// headerIP6 tells a header of IP6 with that next header; its addresses are 102:304:506:708:90a:b0c:d0e:f10 and 1112:1314:1516:1718:191a:1b1c:1d1e:1f20.
func headerIP6(next int) []byte {
	b := make([]byte, 40)
	b[0], b[6] = 0x60, byte(next)
	for i := range 32 {
		b[8+i] = byte(i + 1)
	}
	return b
}

// content is a load of a protocol.
type content struct {
	proto uint32
	load  []byte
}

// contents tells loads of each kind of which filters speak, and of others.
func contents() []content {
	var out []content
	ports := []byte{0, 53, 0, 80, 'a', 'b', 'c', 'd'}
	for _, carried := range []int{1, 6, 17, 58, 99} {
		for _, words := range []int{5, 7} {
			out = append(out, content{api.ProtoIP, joined(headerIP(words, 0, carried), ports)}, content{api.ProtoIP, joined(headerIP(words, 256, carried), ports)})
		}
		out = append(out, content{api.ProtoIP, headerIP(5, 0, carried)})
		out = append(out, content{api.ProtoIP6, joined(headerIP6(carried), ports)}, content{api.ProtoIP6, headerIP6(carried)})
	}
	for _, proto := range []uint32{api.ProtoLCP, api.ProtoPAP, api.ProtoCHAP, api.ProtoIPCP, api.ProtoIP6CP, api.ProtoMulti, 0x00fd, 0x2021} {
		out = append(out, content{proto, []byte{1, 2, 3, 4, 5}}, content{proto, nil}, content{proto, joined(headerIP(5, 0, 6), ports)})
	}
	return out
}

// wellFormed tells frames that are well formed on a link, of each kind.
func wellFormed(link api.Link) [][]byte {
	var out [][]byte
	for _, c := range contents() {
		for _, ahead := range aheads(link, c.proto) {
			out = append(out, joined(ahead, c.load))
		}
	}
	return out
}

// at tells bytes with another one at a place.
func at(b []byte, place int, v byte) []byte {
	out := slices.Clone(b)
	out[place] = v
	return out
}

// illFormed tells frames that are not well formed on a link, each for one reason.
func illFormed(link api.Link) [][]byte {
	ip, ip6 := headerIP(5, 0, 17), headerIP6(17)
	var out [][]byte
	for _, c := range []content{
		{api.ProtoIP, nil}, {api.ProtoIP, ip[:19]}, {api.ProtoIP, at(ip, 0, 0x44)}, {api.ProtoIP, at(ip, 0, 0x55)}, {api.ProtoIP, at(ip, 0, 0x35)}, {api.ProtoIP, at(ip, 0, 0x46)}, {api.ProtoIP, joined(at(ip, 0, 0x4f), make([]byte, 39))}, {api.ProtoIP, ip6},
		{api.ProtoIP6, nil}, {api.ProtoIP6, ip6[:39]}, {api.ProtoIP6, at(ip6, 0, 0x50)}, {api.ProtoIP6, at(ip6, 0, 0x7f)}, {api.ProtoIP6, at(ip6, 0, 0xe0)},
	} {
		for _, ahead := range aheads(link, c.proto) {
			out = append(out, joined(ahead, c.load))
		}
	}
	for _, s := range []string{"", "ff", "ff03", "ff0300", "ff03c0", "ff0321", "ff030020", "ff03ff", "ff04c021", "fe03c021", "03ffc021", "00", "21", "0021", "c0", "c020", "fffe", "ff02", "ff03003d", "ff03003d80", "ff03003d8007", "ff03003d9007c021", "ff03003d8007c020", "ff03003d800721", "ff03003d80000007", "ff03003d800000", "ff03003da0000007c021", "ff03003d81000007c021", "ff03003d41000007", "ff03003d1000", "003d", "3d", "3d80", "3d8007", "3d9007c021"} {
		out = append(out, fromHex(s))
	}
	return slices.DeleteFunc(out, func(b []byte) bool {
		_, e := frame.Look(link, b)
		return e == api.OK
	})
}

// oneOf tells one of so many frames, by turns.
func oneOf(step, turn int, frames [][]byte) [][]byte {
	var out [][]byte
	for i := turn % step; i < len(frames); i += step {
		out = append(out, frames[i])
	}
	return out
}
