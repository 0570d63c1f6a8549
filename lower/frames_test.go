package lower_test

import (
	"slices"
	"testing"

	"riddle/api"
	"riddle/frame"
)

// links tells all links that may be.
func links() []api.Link {
	var out []api.Link
	for _, acfc := range []bool{false, true} {
		for _, pfc := range []bool{false, true} {
			for mp := range 3 {
				out = append(out, api.Link{ACFC: acfc, PFC: pfc, MP: mp})
			}
		}
	}
	return out
}

// fields tells the fields that say a protocol on a link.
func fields(link api.Link, proto uint32) [][]byte {
	out := [][]byte{{byte(proto >> 8), byte(proto)}}
	if link.PFC && proto < 256 {
		out = append(out, []byte{byte(proto)})
	}
	return out
}

// headers tells multilink headers of a link: of pieces that begin, and of others.
func headers(link api.Link) (begin, later [][]byte) {
	switch link.MP {
	case api.MultiShort:
		return [][]byte{{0x80, 7}, {0xcf, 0xff}}, [][]byte{{0, 7}, {0x40, 0}, {0, 0}}
	case api.MultiLong:
		return [][]byte{{0x80, 0, 0, 7}, {0xc0, 0xff, 0xff, 0xff}}, [][]byte{{0, 0, 0, 7}, {0x40, 0, 1, 2}, {0, 0, 0, 0}}
	}
	return nil, nil
}

// aheads tells all that may stand ahead of a load of a protocol on a link: with and without address and control, in a piece and in none.
func aheads(link api.Link, proto uint32) [][]byte {
	var out [][]byte
	addresses := [][]byte{{0xff, 3}}
	if link.ACFC {
		addresses = append(addresses, nil)
	}
	begin, later := headers(link)
	for _, address := range addresses {
		for _, inner := range fields(link, proto) {
			if link.MP == api.MultiOff || proto != api.ProtoMulti {
				out = append(out, joined(address, inner))
			}
			for _, field := range fields(link, api.ProtoMulti) {
				for _, header := range begin {
					out = append(out, joined(address, field, header, inner))
				}
				for _, header := range later {
					out = append(out, joined(address, field, header))
				}
			}
		}
	}
	return out
}

// headerIP tells a header of IP of so many words, with that fragment offset and next header; its addresses are 1.2.3.4 and 5.6.7.8.
func headerIP(words, offset, next int) []byte {
	b := make([]byte, 4*words)
	b[0], b[6], b[7], b[9] = byte(0x40+words), byte(0xe0|offset>>8), byte(offset), byte(next)
	copy(b[12:], []byte{1, 2, 3, 4, 5, 6, 7, 8})
	return b
}

// headerIP6 tells a header of IP6 with that next header; its addresses are 102:304:506:708:90a:b0c:d0e:f10 and 1112:1314:1516:1718:191a:1b1c:1d1e:1f20.
func headerIP6(next int) []byte {
	b := make([]byte, 40)
	b[0], b[6] = 0x6f, byte(next)
	for i := range 32 {
		b[8+i] = byte(i + 1)
	}
	return b
}

// content is a load of a protocol.
type content struct {
	proto uint32
	load  []byte
}

// contents tells loads of each kind of which nodes speak, and of others.
func contents() []content {
	var out []content
	ports := []byte{0, 53, 0, 80, 'a', 'b', 'c', 'd'}
	for _, carried := range []int{0, 1, 4, 6, 17, 58, 255} {
		for _, words := range []int{5, 6, 15} {
			out = append(out, content{api.ProtoIP, joined(headerIP(words, 0, carried), ports)}, content{api.ProtoIP, headerIP(words, 0, carried)})
			for _, offset := range []int{1, 256, 4096, 8191} {
				// a later fragment
				out = append(out, content{api.ProtoIP, joined(headerIP(words, offset, carried), ports)})
			}
		}
		out = append(out, content{api.ProtoIP6, joined(headerIP6(carried), ports)}, content{api.ProtoIP6, headerIP6(carried)})
	}
	for _, proto := range []uint32{api.ProtoLCP, api.ProtoPAP, api.ProtoCHAP, api.ProtoIPCP, api.ProtoIP6CP, api.ProtoMulti, 1, 0x00fd, 0x2021, 0x4021, 0xc057, 0xfeff} {
		out = append(out, content{proto, []byte{1, 2, 3, 4, 5}}, content{proto, nil}, content{proto, joined(headerIP(5, 0, 6), ports)}, content{proto, joined(headerIP6(17), ports)})
	}
	return out
}

// oneOfContents tells one of so many loads, by turns.
func oneOfContents(step, turn int) []content {
	var out []content
	for i, c := range contents() {
		if i%step == turn%step {
			out = append(out, c)
		}
	}
	return out
}

// wellFormed tells frames that are well formed on a link, of each kind.
func wellFormed(link api.Link) [][]byte {
	var out [][]byte
	for _, c := range contents() {
		for _, ahead := range aheads(link, c.proto) {
			out = append(out, joined(ahead, c.load))
		}
	}
	return out
}

// oneOf tells one of so many frames, by turns.
func oneOf(step, turn int, frames [][]byte) [][]byte {
	var out [][]byte
	for i := turn % step; i < len(frames); i += step {
		out = append(out, frames[i])
	}
	return out
}

// illFormed tells frames that are not well formed on a link, each for one reason.
func illFormed(link api.Link) [][]byte {
	ip, ip6 := headerIP(5, 0, 17), headerIP6(17)
	at := func(b []byte, place int, v byte) []byte {
		out := slices.Clone(b)
		out[place] = v
		return out
	}
	loads := []content{
		{api.ProtoIP, nil}, {api.ProtoIP, ip[:1]}, {api.ProtoIP, ip[:19]}, {api.ProtoIP, at(ip, 0, 0x44)}, {api.ProtoIP, at(ip, 0, 0x40)}, {api.ProtoIP, at(ip, 0, 0x55)}, {api.ProtoIP, at(ip, 0, 0x35)}, {api.ProtoIP, at(ip, 0, 0)}, {api.ProtoIP, at(ip, 0, 0xf5)},
		{api.ProtoIP, at(ip, 0, 0x46)}, {api.ProtoIP, behind(at(ip, 0, 0x46), 3)}, {api.ProtoIP, behind(at(ip, 0, 0x4f), 39)}, {api.ProtoIP, ip6},
		{api.ProtoIP6, nil}, {api.ProtoIP6, ip6[:1]}, {api.ProtoIP6, ip6[:39]}, {api.ProtoIP6, at(ip6, 0, 0x50)}, {api.ProtoIP6, at(ip6, 0, 0x7f)}, {api.ProtoIP6, at(ip6, 0, 0x46)}, {api.ProtoIP6, at(ip6, 0, 0xe0)},
	}
	var out [][]byte
	for _, c := range loads {
		for _, ahead := range aheads(link, c.proto) {
			out = append(out, joined(ahead, c.load))
		}
	}
	for _, s := range []string{"", "ff", "ff03", "ff0300", "ff03c0", "ff0321", "ff030020", "ff03ff", "ff04c021", "fe03c021", "03ffc021", "00", "21", "0021", "c0", "c020", "fffe", "ff02", "ff03003d", "ff03003d80", "ff03003d8007", "ff03003d9007c021", "ff03003da007c021", "ff03003d8007c020", "ff03003d800721", "ff03003d80000007", "ff03003d8000", "ff03003d800000", "ff03003da0000007c021", "ff03003d81000007c021", "ff03003d41000007", "ff03003d1000", "ff03003d80000007c0", "003d", "3d", "3d80", "3d8007", "3d9007c021"} {
		out = append(out, fromHex(s))
	}
	return slices.DeleteFunc(out, func(b []byte) bool {
		_, e := frame.Look(link, b)
		return e == api.OK
	})
}

// A frame that is not well formed matches nothing, not even what says no of nothing.
func TestNotWellFormed(t *testing.T) {
	t.Parallel()
	seen := map[api.Errno]int{}
	for _, link := range links() {
		for _, s := range []string{"1 = 1", "not 1 = 2", "not ip", "inbound or outbound", "not (ip[99] = 0)", "len >= 0", "not mp or mp", "not port 5"} {
			l := source(t, s)
			g := lowered(t, l, link)
			for _, b := range illFormed(link) {
				_, e := frame.Look(link, b)
				seen[e]++
				for _, way := range ways() {
					comesTo(t, g, l, link, way, b, 0)
				}
			}
		}
	}
	for _, e := range []api.Errno{api.ErrFrameShort, api.ErrFrameAddress, api.ErrFrameProto, api.ErrFrameMulti, api.ErrFrameIP} {
		if seen[e] < 20 {
			t.Errorf("only %d frames were %d", seen[e], e)
		}
	}
}

// Each first byte of a header of IP and IP6, with so many bytes behind it that none is lacking, and with just one lacking.
func TestFirstBytes(t *testing.T) {
	for _, s := range []string{"1 = 1", "udp port 53", "not udp or udp[0] = 0"} {
		var n tally
		l := source(t, s)
		for _, ahead := range []string{"ff030021", "ff030057"} {
			for first := range 256 {
				b := joined(fromHex(ahead), headerIP(5, 0, 17), slices.Repeat([]byte{0, 53}, 40))
				b[4], b[10] = byte(first), 17
				n.agrees(t, l, plain(), b, b[:4+4*(first%16)], b[:max(4, 3+4*(first%16))], b[:44], b[:43])
			}
		}
		if n[api.JudgeYes] < 20 || n[api.JudgeFault] < 2000 {
			t.Errorf("%v", n)
		}
	}
}

// Every frame that is well formed is found to be so.
func TestWellFormed(t *testing.T) {
	t.Parallel()
	for _, link := range links() {
		for _, s := range []string{"1 = 1", "not 2 < 1"} {
			l := source(t, s)
			g := lowered(t, l, link)
			for i, b := range oneOf(5, len(s), wellFormed(link)) {
				comesTo(t, g, l, link, i%2, b, 1)
			}
		}
	}
}

// Each beginning of a frame, down to no byte, and each with one byte behind it.
func TestBeginnings(t *testing.T) {
	t.Parallel()
	var n tally
	for i, link := range links() {
		var frames [][]byte
		for _, c := range []content{
			{api.ProtoIP, joined(headerIP(6, 0, 17), []byte{0, 53, 0, 54})}, {api.ProtoIP6, joined(headerIP6(6), []byte{0, 53, 0, 54})}, {api.ProtoLCP, []byte{1, 2, 3}}, {api.ProtoIP, joined(headerIP(5, 9, 6), []byte{0, 53})},
		} {
			for _, ahead := range oneOf(2, i, aheads(link, c.proto)) {
				whole := joined(ahead, c.load)
				for size := range len(whole) + 1 {
					frames = append(frames, whole[:size])
				}
			}
		}
		for at, s := range []string{"1 = 1", "not ip", "udp or tcp", "dst port 54", "port 54 or port 53", "tcp[2] = 0", "ppp[5] != 99", "ip[20:4] = 0 or lcp[2] = 3"} {
			if at%4 == i%4 {
				n.agrees(t, source(t, s), link, frames...)
			}
		}
	}
	n.enough(t, 500)
}

// What is a piece, and what is found in it.
func TestPieces(t *testing.T) {
	t.Parallel()
	var n tally
	inner := joined(headerIP(5, 0, 17), []byte{0, 53, 0, 54})
	for _, x := range []struct {
		link   api.Link
		header string
		begin  bool
	}{
		{api.Link{MP: 1}, "ff03 003d 8007 0021", true}, {api.Link{MP: 1}, "ff03 003d c000 0021", true}, {api.Link{MP: 2}, "ff03 003d 80000007 0021", true}, {api.Link{MP: 2}, "ff03 003d c0ffffff 0021", true},
		{api.Link{MP: 1}, "ff03 003d 0007 0021", false}, {api.Link{MP: 1}, "ff03 003d 4fff 0021", false}, {api.Link{MP: 2}, "ff03 003d 00000007 0021", false}, {api.Link{MP: 2}, "ff03 003d 40ffffff 0021", false},
		{api.Link{ACFC: true, PFC: true, MP: 1}, "3d 8007 21", true}, {api.Link{ACFC: true, PFC: true, MP: 1}, "3d 0007 21", false}, {api.Link{ACFC: true, MP: 2}, "003d 40000000 0021", false}, {api.Link{PFC: true, MP: 2}, "ff03 3d 80000000 21", true},
	} {
		b := joined(fromHex(x.header), inner)
		for _, s := range []string{"ip", "udp", "ip proto 17", "src host 1.2.3.4", "host 5.6.7.8", "net 1.0.0.0/8", "port 53", "udp dst port 54", "proto 33", "ip[9] = 17", "udp[2:2] = 54", "ip[0] = 0x45"} {
			says(t, source(t, s), x.link, b, holds(x.begin))
			says(t, source(t, "not "+s), x.link, b, holds(!x.begin))
			n.agrees(t, source(t, s), x.link, b)
		}
		says(t, source(t, "proto 61"), x.link, b, holds(!x.begin))
		says(t, source(t, "mp"), x.link, b, 1)
		says(t, source(t, "ip6 or tcp or icmp or lcp or host :: or port 55 or tcp port 53"), x.link, b, 0)
		// Without a beginning there is nothing of which the load could speak, not even as a fault.
		says(t, source(t, "not ip[99] = 0"), x.link, b, holds(!x.begin))
		plainly := api.Link{ACFC: x.link.ACFC, PFC: x.link.PFC}
		says(t, source(t, "not mp and proto 61 and not ip"), plainly, b, 1)
	}
	short := api.Link{MP: api.MultiShort}
	says(t, source(t, "mp and lcp and lcp[1] = 2 and not ip"), short, fromHex("ff03 003d 8007 c021 01 02"), 1)
	says(t, source(t, "mp and proto 61 and not lcp"), short, fromHex("ff03 003d 8007 003d c021 01 02"), 1)
	says(t, source(t, "mp and proto 61 and not lcp"), short, fromHex("ff03 003d 0007"), 1)
	for _, link := range links() {
		for _, s := range []string{"mp", "not mp", "proto 61 and not mp", "mp and proto 61 or ip"} {
			n.agrees(t, source(t, s), link, oneOf(11, len(s), append(wellFormed(link), illFormed(link)...))...)
		}
	}
	n.enough(t, 100)
}

// Frames as long as may be.
func TestLongestFrames(t *testing.T) {
	t.Parallel()
	var n tally
	for _, link := range []api.Link{plain(), {ACFC: true, PFC: true, MP: api.MultiShort}} {
		whole := behind(f(), api.MaxFrame-28)
		copy(whole[api.MaxFrame-4:], []byte{1, 2, 3, 4})
		for s, want := range map[string]uint32{
			"len = 65535": 1, "len = 65536": 0, "ppp[65534] = 4": 1, "ppp[65535] = 4": 0, "not ppp[65535] = 4": 0, "ppp[65531:4] = 0x1020304": 1, "ppp[65532:4] = 0": 0, "ppp[len - 1] = 4": 1, "ppp[len] = 0": 0, "ppp[len - 2:2] = 0x304": 1,
			"ip[65530] = 4": 1, "ip[65531] = 0": 0, "ip[len - 5] = 4": 1, "ip[len - 4] >= 0": 0, "ip[len - 1] >= 0": 0, "ip[len] >= 0": 0, "udp[65510] = 4": 1, "udp[65507:4] = 0x1020304": 1, "udp[len - 25] = 4": 1, "udp[len - 24] >= 0": 0, "udp[len + 1] >= 0": 0,
		} {
			says(t, source(t, s), link, whole, want)
			n.agrees(t, source(t, s), link, whole, whole[:api.MaxFrame-1], whole[:len(whole)-3])
		}
		// The longest header of IP that may be, at the longest frame's end: it is there, or lacks a byte.
		options := joined(fromHex("ff030021"), headerIP(15, 0, 6))
		n.agrees(t, source(t, "tcp port 5 or not tcp"), link, options, options[:len(options)-1], append(slices.Clone(options), 0, 5), append(slices.Clone(options), 0, 5, 0))
	}
	n.enough(t, 10)
}
