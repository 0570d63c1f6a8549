package lower_test

import (
	"slices"
	"testing"

	"riddle/api"
)

// everywhere holds filters to what they say on every link, of frames of each kind: each of one of so many, by turns.
func everywhere(t *testing.T, step int, filters ...[]api.Node) {
	t.Helper()
	var n tally
	for _, link := range links() {
		frames := append(wellFormed(link), illFormed(link)...)
		for turn, l := range filters {
			n.agrees(t, l, link, oneOf(step, turn, frames)...)
		}
	}
	n.enough(t, 100)
}

// each tells lists of one node each.
func each(nodes ...api.Node) [][]api.Node {
	var out [][]api.Node
	for _, n := range nodes {
		out = append(out, list(n))
	}
	return out
}

func TestWords(t *testing.T) {
	t.Parallel()
	var all [][]api.Node
	for of := api.OfIP; of <= api.OfMP; of++ {
		all = append(all, list(word(of)), not(list(word(of))))
	}
	everywhere(t, 53, all...)
}

func TestWays(t *testing.T) {
	t.Parallel()
	everywhere(t, 61, each(goes(api.SideSrc), goes(api.SideDst))...)
	for way, want := range []uint32{1, 0} {
		l := list(goes(api.SideSrc))
		comesTo(t, lowered(t, l, plain()), l, plain(), way, f(), want)
		l = list(goes(api.SideDst))
		comesTo(t, lowered(t, l, plain()), l, plain(), way, f(), 1-want)
	}
}

func TestProtocols(t *testing.T) {
	t.Parallel()
	everywhere(t, 59, each(proto(0), proto(0x21), proto(0x3d), proto(0x57), proto(0x8021), proto(0x8057), proto(0xc021), proto(0xc023), proto(0xc223), proto(0xfeff), proto(0xffff), proto(1), proto(0xfd))...)
}

func TestNextHeaders(t *testing.T) {
	t.Parallel()
	var all []api.Node
	for _, of := range []int{api.OfIP, api.OfIP6} {
		for _, n := range []uint32{0, 1, 4, 6, 17, 58, 255} {
			all = append(all, next(of, n))
		}
	}
	everywhere(t, 59, each(all...)...)
}

// address tells the address of a side in the headers of these tests.
func address(of, side int) []byte {
	b, at, size := headerIP6(0), 8, 16
	if of == api.OfIP {
		b, at, size = headerIP(5, 0, 0), 12, 4
	}
	if side == api.SideDst {
		at += size
	}
	return b[at : at+size]
}

// flipped tells an address with one bit turned.
func flipped(a []byte, bit int) []byte {
	out := slices.Clone(a)
	out[bit/8] ^= 128 >> (bit % 8)
	return out
}

// cut tells an address with all bits behind the first bits ones 0.
func cut(a []byte, bits int) []byte {
	out := make([]byte, len(a))
	for bit := range bits {
		out[bit/8] |= a[bit/8] & (128 >> (bit % 8))
	}
	return out
}

func TestHosts(t *testing.T) {
	t.Parallel()
	var all []api.Node
	for _, of := range []int{api.OfIP, api.OfIP6} {
		for _, side := range sides() {
			all = append(all, host(of, side, address(of, api.SideSrc)...), host(of, side, address(of, api.SideDst)...), host(of, side))
		}
	}
	everywhere(t, 67, each(all...)...)
}

// Every bit of a host's address counts.
func TestBitsOfHosts(t *testing.T) {
	t.Parallel()
	frames := map[int][]byte{api.OfIP: joined(fromHex("ff03 0021"), headerIP(5, 0, 0)), api.OfIP6: joined(fromHex("ff03 0057"), headerIP6(0))}
	for of, b := range frames {
		for _, side := range []int{api.SideSrc, api.SideDst} {
			own := address(of, side)
			says(t, list(host(of, side, own...)), plain(), b, 1)
			says(t, list(host(of, api.SideAny, own...)), plain(), b, 1)
			says(t, list(host(of, 3-side, own...)), plain(), b, 0)
			for bit := range 8 * len(own) {
				for _, asked := range sides() {
					says(t, list(host(of, asked, flipped(own, bit)...)), plain(), b, 0)
					says(t, not(list(host(of, asked, flipped(own, bit)...))), plain(), b, 1)
				}
			}
		}
	}
}

// Every bit of a net counts, and none behind them.
func TestNets(t *testing.T) {
	t.Parallel()
	frames := map[int][]byte{api.OfIP: joined(fromHex("ff03 0021"), headerIP(5, 0, 0)), api.OfIP6: joined(fromHex("ff03 0057"), headerIP6(0))}
	for of, b := range frames {
		at := map[int]int{api.OfIP: 4 + 12, api.OfIP6: 4 + 8}[of]
		src, dst := address(of, api.SideSrc), address(of, api.SideDst)
		for bits := range 8*len(src) + 1 {
			own := net(of, api.SideSrc, bits, cut(src, bits)...)
			says(t, list(own), plain(), b, 1)
			says(t, list(net(of, api.SideDst, bits, cut(dst, bits)...)), plain(), b, 1)
			says(t, list(net(of, api.SideAny, bits, cut(src, bits)...)), plain(), b, 1)
			says(t, list(net(of, api.SideAny, bits, cut(dst, bits)...)), plain(), b, 1)
			for bit := range 8 * len(src) {
				if bit%8 != bits%8 && bit != bits-1 && bit != bits {
					continue
				}
				turned := slices.Clone(b)
				copy(turned[at:], flipped(src, bit))
				says(t, list(own), plain(), turned, holds(bit >= bits))
			}
		}
		for other := range frames {
			for _, side := range sides() {
				says(t, list(net(other, side, 0)), plain(), b, holds(of == other))
			}
		}
	}
}

func TestNetsEverywhere(t *testing.T) {
	t.Parallel()
	var all []api.Node
	for _, of := range []int{api.OfIP, api.OfIP6} {
		for side, own := range [][]byte{address(of, api.SideDst), address(of, api.SideSrc), address(of, api.SideDst)} {
			for _, bits := range []int{0, 1, 8, 31, 32} {
				all = append(all, net(of, side, bits*len(own)/4, cut(own, bits*len(own)/4)...))
			}
		}
	}
	everywhere(t, 67, each(all...)...)
}

// ported tells a frame of IP, a later fragment if so asked for, that carries such ports.
func ported(carried, offset int, ports ...byte) []byte {
	return joined(fromHex("ff030021"), headerIP(6, offset, carried), ports)
}

func TestPorts(t *testing.T) {
	t.Parallel()
	var n tally
	var frames [][]byte
	for _, carried := range []int{1, 6, 17, 58, 0} {
		for _, ports := range [][]byte{{0, 53, 0, 80, 9}, {0, 80, 0, 53}, {0, 54, 0, 54}, {0, 52, 0, 52}, {0, 0, 255, 255}, {255, 255, 0, 0}, {0, 53, 0}, {0, 53}, {0, 80, 0}, {0, 80}, {0}, {}, {1, 53, 1, 80}} {
			frames = append(frames, ported(carried, 0, ports...), ported(carried, 1, ports...), joined(fromHex("ff030057"), headerIP6(carried), ports))
		}
	}
	for _, of := range []int{api.OfAny, api.OfTCP, api.OfUDP} {
		for _, side := range sides() {
			for _, x := range [][2]uint32{{53, 53}, {53, 54}, {52, 53}, {0, 65535}, {0, 0}, {65535, 65535}, {54, 79}, {80, 65535}, {0, 52}, {81, 65534}, {309, 309}} {
				n.agrees(t, list(port(of, side, x[0], x[1])), plain(), frames...)
				n.agrees(t, not(list(port(of, side, x[0], x[1]))), plain(), oneOf(7, side, frames)...)
			}
		}
	}
	n.enough(t, 100)
	everywhere(t, 31, each(port(0, 0, 53, 53), port(0, 1, 53, 53), port(0, 2, 80, 80), port(api.OfTCP, 0, 60, 90), port(api.OfUDP, 0, 0, 65535), port(api.OfTCP, 2, 0, 79))...)
}

// Of both sides the first one decides, and only where it says no the second one may be a fault.
func TestPortsInTurn(t *testing.T) {
	for _, x := range []struct {
		s     string
		ports []byte
		want  uint32
	}{
		{"port 53", []byte{0, 53}, 1}, {"port 53", []byte{0, 54}, 0}, {"not port 53", []byte{0, 53}, 0}, {"not port 53", []byte{0, 54}, 0}, {"not port 53", []byte{0, 54, 0, 54}, 1},
		{"src port 53", []byte{0, 53}, 1}, {"not src port 53", []byte{0, 54}, 1}, {"dst port 53", []byte{0, 53}, 0}, {"not dst port 53", []byte{0, 53}, 0}, {"not src port 53", []byte{0}, 0}, {"src port 53", nil, 0},
		{"not tcp port 53", nil, 1}, {"not dst port 53", []byte{0, 53, 0}, 0}, {"dst port 53", []byte{0, 1, 0, 53}, 1},
	} {
		says(t, source(t, x.s), plain(), ported(17, 0, x.ports...), x.want)
	}
	says(t, source(t, "not port 53"), plain(), ported(17, 1, 0, 53, 0, 53), 1)
	says(t, source(t, "udp"), plain(), ported(17, 1, 0, 53, 0, 53), 1)
	says(t, source(t, "not udp[0] = 0"), plain(), ported(17, 1, 0, 53, 0, 53), 1)
}

// saidTruths tells truths that are yes, no and a fault of the chapter's frame.
func saidTruths(t *testing.T) [3][]string {
	return [3][]string{
		api.JudgeNo: {"tcp", "ip[0] = 0", "tcp[0] = ip[99]", "port 5"}, api.JudgeYes: {"ip", "udp[0:2] = 53", "host 1.2.3.4", "len > 5"},
		api.JudgeFault: {"ip[99] = 0", "1 / (len - 28) = 0", "ppp[len:4] = ppp[0]", "udp[4] != 5"},
	}
}

// Faults and what is no and yes, as parts of and, or and not.
func TestJoined(t *testing.T) {
	t.Parallel()
	all := saidTruths(t)
	value := func(how int) uint32 { return holds(how == api.JudgeYes) }
	for first, some := range all {
		for second, more := range all {
			both, either := first, first
			if first == api.JudgeYes {
				both = second
			}
			if first == api.JudgeNo {
				either = second
			}
			for _, a := range some {
				for _, b := range more {
					x, y := source(t, a), source(t, b)
					says(t, and(x, y), plain(), f(), value(both))
					says(t, or(x, y), plain(), f(), value(either))
					turned := [3]uint32{api.JudgeNo: 1}
					says(t, not(and(x, y)), plain(), f(), turned[both])
					says(t, not(or(x, y)), plain(), f(), turned[either])
					says(t, and(not(not(x)), y), plain(), f(), value(both))
					says(t, or(not(not(not(not(x)))), y), plain(), f(), value(either))
					says(t, not(and(not(x), not(y))), plain(), f(), value(either))
					says(t, not(or(not(x), not(y))), plain(), f(), value(both))
				}
			}
		}
	}
}

// Truths nested in one another, in each shape and with each mix.
func TestShapes(t *testing.T) {
	t.Parallel()
	all := saidTruths(t)
	var n tally
	for code := range 81 * 16 {
		parts := make([][]api.Node, 4)
		for i := range parts {
			parts[i] = source(t, all[code/[]int{1, 3, 9, 27}[i]%3][i])
			if code/81>>i&1 == 1 {
				parts[i] = not(parts[i])
			}
		}
		a, b, c, d := parts[0], parts[1], parts[2], parts[3]
		for _, l := range [][]api.Node{or(and(a, b), and(c, d)), and(or(a, b), or(c, d)), and(a, or(b, and(c, d))), or(a, and(b, or(c, d))), or(and(or(a, b), c), d), not(and(not(or(a, b)), or(not(c), d)))} {
			n.agrees(t, l, plain(), f())
		}
	}
	n.enough(t, 1000)
}
