package mean_test

import (
	"slices"
	"testing"

	"riddle/api"
)

// saying is what a load makes the words say: those that say yes, and Net, Next and where TCP, UDP and the others begin in it.
type saying struct {
	proto uint32
	load  []byte
	words []int
	net   int
	next  int
	begin int // 0, where they are not there
}

// sayings tells loads of each kind of which nodes speak, and of others.
func sayings() []saying {
	var out []saying
	words := map[int]map[int]int{
		api.OfIP:  {1: api.OfICMP, 6: api.OfTCP, 17: api.OfUDP},
		api.OfIP6: {6: api.OfTCP, 17: api.OfUDP, 58: api.OfICMP6},
	}
	for _, number := range []int{0, 1, 6, 7, 17, 58, 255} {
		add := func(of int, load []byte, begin int) {
			s := saying{proto: numbers()[of], load: load, words: []int{of}, net: of, next: number, begin: begin}
			if word, ok := words[of][number]; ok {
				s.words = append(s.words, word)
			}
			out = append(out, s)
		}
		for _, size := range []int{5, 15} {
			add(api.OfIP, joined(headerIP(size, 0, number), []byte("abcdefgh")), 4*size)
			add(api.OfIP, headerIP(size, 0, number), 4*size)
			for _, offset := range []int{1, 256, 8191} {
				// a later fragment
				add(api.OfIP, joined(headerIP(size, offset, number), []byte("abcdefgh")), 0)
			}
		}
		add(api.OfIP6, joined(headerIP6(number), []byte("abcdefgh")), 40)
		add(api.OfIP6, headerIP6(number), 40)
	}
	for of := api.OfLCP; of <= api.OfIP6CP; of++ {
		proto := numbers()[of]
		out = append(out, saying{proto: proto, load: []byte{1, 2, 3, 4}, words: []int{of}}, saying{proto: proto, words: []int{of}})
	}
	for _, proto := range []uint32{0x0001, 0x0023, 0x00fd, 0x2021, 0x4021, 0x8023, 0x8223, 0xc057, 0xc221, 0xfeff} {
		out = append(out, saying{proto: proto, load: joined(headerIP(5, 0, 6), []byte("abcdefgh"))}, saying{proto: proto, load: joined(headerIP6(17), []byte("abcdefgh"))})
	}
	return out
}

// everywhere goes through all ways to lay loads on links.
func everywhere(each func(s saying, at laid, b []byte)) {
	everywhereBut(1, each)
}

// everywhereBut goes through one of so many of them, by turns: each of two loads of a kind is laid in other ways.
func everywhereBut(step int, each func(s saying, at laid, b []byte)) {
	for turn, s := range sayings() {
		for i, at := range layings(s.proto) {
			if (turn+i)%step == 0 {
				each(s, at, joined(at.ahead, s.load))
			}
		}
	}
}

func TestWords(t *testing.T) {
	everywhere(func(s saying, at laid, b []byte) {
		for of := api.OfIP; of <= api.OfMP; of++ {
			want := holds(slices.Contains(s.words, of))
			if of == api.OfMP {
				want = holds(at.piece)
			}
			saysBothWays(t, list(word(of)), at.link, b, want)
		}
	})
}

func TestWays(t *testing.T) {
	everywhere(func(s saying, at laid, b []byte) {
		says(t, list(goes(api.SideSrc)), at.link, api.WayIn, b, yes)
		says(t, list(goes(api.SideSrc)), at.link, api.WayOut, b, no)
		says(t, list(goes(api.SideDst)), at.link, api.WayIn, b, no)
		says(t, list(goes(api.SideDst)), at.link, api.WayOut, b, yes)
	})
}

func TestProtocols(t *testing.T) {
	everywhere(func(s saying, at laid, b []byte) {
		for _, n := range []uint32{0, 0x21, 0x3d, 0x57, 0x8021, 0x8057, 0xc021, 0xc023, 0xc223, 0xffff, s.proto, s.proto ^ 2, s.proto ^ 0x8000, s.proto & 255} {
			saysBothWays(t, list(proto(n)), at.link, b, holds(n == s.proto))
		}
	})
}

func TestNextHeaders(t *testing.T) {
	everywhere(func(s saying, at laid, b []byte) {
		for _, of := range []int{api.OfIP, api.OfIP6} {
			for _, n := range []uint32{0, 1, 6, 17, 58, 255, uint32(s.next), uint32(s.next) ^ 1} {
				saysBothWays(t, list(next(of, n)), at.link, b, holds(s.net == of && n == uint32(s.next)))
			}
		}
	})
}

// On a plain link a frame of the protocol ProtoMulti is no piece; on others it is, and only one that begins has a protocol of its own.
func TestPieces(t *testing.T) {
	saysBothWays(t, source(t, "not mp and proto 61"), plain(), fromHex("ff03003d"), yes)
	saysBothWays(t, source(t, "not mp and proto 61"), api.Link{ACFC: true, PFC: true}, fromHex("3d 80 07 21 45"), yes)
	inner := joined(headerIP(5, 0, 17), []byte{0, 53, 0, 54})
	for _, x := range []struct {
		link   api.Link
		header string
		begin  bool
	}{
		{api.Link{MP: 1}, "ff03 003d 8007 0021", true}, {api.Link{MP: 1}, "ff03 003d c000 0021", true}, {api.Link{MP: 2}, "ff03 003d 80000007 0021", true}, {api.Link{MP: 2}, "ff03 003d c0ffffff 0021", true},
		{api.Link{MP: 1}, "ff03 003d 0007 0021", false}, {api.Link{MP: 1}, "ff03 003d 4fff 0021", false}, {api.Link{MP: 2}, "ff03 003d 00000007 0021", false}, {api.Link{MP: 2}, "ff03 003d 40ffffff 0021", false},
		{api.Link{ACFC: true, PFC: true, MP: 1}, "3d 8007 21", true}, {api.Link{ACFC: true, PFC: true, MP: 1}, "3d 0007 21", false}, {api.Link{ACFC: true, MP: 2}, "003d 40000000 0021", false}, {api.Link{PFC: true, MP: 2}, "ff03 3d 80000000 21", true},
	} {
		b := joined(fromHex(x.header), inner)
		for _, s := range []string{"ip", "udp", "ip proto 17", "src host 1.2.3.4", "host 5.6.7.8", "net 1.0.0.0/8", "port 53", "udp dst port 54", "proto 33", "ip[9] = 17", "udp[2:2] = 54", "ip[0] = 0x45"} {
			saysBothWays(t, source(t, s), x.link, b, holds(x.begin))
		}
		saysBothWays(t, source(t, "proto 61"), x.link, b, holds(!x.begin))
		saysBothWays(t, source(t, "mp"), x.link, b, yes)
		saysBothWays(t, source(t, "ip6 or tcp or icmp or lcp or host :: or port 55 or tcp port 53"), x.link, b, no)
		comesTo(t, source(t, "len"), x.link, b, uint32(len(b)), yes)
		comesTo(t, source(t, "ppp[0]"), x.link, b, uint32(b[0]), yes)
		comesTo(t, source(t, "ppp[len - 1]"), x.link, b, 54, yes)
		comesTo(t, source(t, "ppp[len]"), x.link, b, 0, fault)
		// Without a beginning there is nothing of which the load could speak, not even as a fault.
		saysBothWays(t, source(t, "ip[99] = 0"), x.link, b, map[bool]int{true: fault, false: no}[x.begin])
	}
	lcp := api.Link{MP: api.MultiShort}
	saysBothWays(t, source(t, "mp and lcp and lcp[1] = 2 and not ip"), lcp, fromHex("ff03 003d 8007 c021 01 02"), yes)
	saysBothWays(t, source(t, "mp and proto 61 and not lcp"), lcp, fromHex("ff03 003d 8007 003d c021 01 02"), yes)
	saysBothWays(t, source(t, "mp and proto 61 and not lcp"), lcp, fromHex("ff03 003d 0007"), yes)
	// What is behind the header of a piece must be well formed too.
	for _, b := range []string{"ff03 003d", "ff03 003d 80", "ff03 003d 8007", "ff03 003d 8007 00", "ff03 003d 8007 0021", "ff03 003d 9007 c021", "ff03 003d a007 c021", "ff03 003d 8007 21 45"} {
		saysBothWays(t, source(t, "mp or not mp"), lcp, fromHex(b), fault)
	}
}

// address tells the address of a side in the headers of these tests.
func address(of, side int) []byte {
	b, at, size := headerIP6(0), 8, 16
	if of == api.OfIP {
		b, at, size = headerIP(5, 0, 0), 12, 4
	}
	if side == api.SideDst {
		at += size
	}
	return b[at : at+size]
}

// flipped tells an address with one bit turned.
func flipped(a []byte, bit int) []byte {
	out := slices.Clone(a)
	out[bit/8] ^= 128 >> (bit % 8)
	return out
}

func TestHosts(t *testing.T) {
	everywhereBut(3, func(s saying, at laid, b []byte) {
		for _, of := range []int{api.OfIP, api.OfIP6} {
			src, dst := address(of, api.SideSrc), address(of, api.SideDst)
			is := s.net == of
			for _, x := range []struct {
				side int
				of   []byte
				want bool
			}{
				{api.SideSrc, src, is}, {api.SideDst, src, false}, {api.SideAny, src, is}, {api.SideSrc, dst, false}, {api.SideDst, dst, is}, {api.SideAny, dst, is},
				{api.SideAny, flipped(src, 0), false}, {api.SideAny, flipped(dst, 0), false}, {api.SideAny, flipped(src, 8*len(src)-1), false}, {api.SideAny, flipped(dst, 8*len(src)-1), false},
				{api.SideSrc, nil, false}, {api.SideDst, nil, false}, {api.SideAny, nil, false},
			} {
				saysBothWays(t, list(host(of, x.side, x.of...)), at.link, b, holds(x.want))
			}
		}
	})
}

// cut tells an address with all bits behind the first bits ones 0.
func cut(a []byte, bits int) []byte {
	out := make([]byte, len(a))
	for bit := range bits {
		out[bit/8] |= a[bit/8] & (128 >> (bit % 8))
	}
	return out
}

// Every bit of a net counts, and none behind them; every bit of a host counts.
func TestNets(t *testing.T) {
	frames := map[int][]byte{
		api.OfIP:  joined(fromHex("ff03 0021"), headerIP(5, 0, 0)),
		api.OfIP6: joined(fromHex("ff03 0057"), headerIP6(0)),
	}
	places := map[int]int{api.OfIP: 16, api.OfIP6: 12}
	for of, b := range frames {
		src, dst := address(of, api.SideSrc), address(of, api.SideDst)
		all := 8 * len(src)
		for bits := 0; bits <= all; bits++ {
			for _, link := range []api.Link{{}, {ACFC: true, PFC: true, MP: 2}} {
				none := holds(bits == 0)
				for _, side := range sides() {
					one, other := src, dst
					if side == api.SideDst {
						one, other = dst, src
					}
					saysBothWays(t, list(net(of, side, bits, cut(one, bits)...)), link, b, yes)
					crossed := holds(side == api.SideAny || slices.Equal(cut(one, bits), cut(other, bits)))
					saysBothWays(t, list(net(of, side, bits, cut(other, bits)...)), link, b, crossed)
					for other := range frames {
						if other != of {
							saysBothWays(t, list(net(other, side, min(bits, 32))), link, b, no)
							saysBothWays(t, list(host(other, side)), link, b, no)
						}
					}
				}
				for bit := range bits {
					saysBothWays(t, list(net(of, api.SideSrc, bits, flipped(cut(src, bits), bit)...)), link, b, none)
					saysBothWays(t, list(net(of, api.SideDst, bits, flipped(cut(dst, bits), bit)...)), link, b, none)
				}
			}
			// The other way round: the frame's bits are turned.
			for bit := range all {
				turned := slices.Clone(b)
				copy(turned[places[of]:], flipped(src, bit))
				saysBothWays(t, list(net(of, api.SideSrc, bits, cut(src, bits)...)), plain(), turned, holds(bit >= bits))
				saysBothWays(t, list(host(of, api.SideSrc, src...)), plain(), turned, no)
				copy(turned[places[of]:], joined(src, flipped(dst, bit)))
				saysBothWays(t, list(net(of, api.SideDst, bits, cut(dst, bits)...)), plain(), turned, holds(bit >= bits))
				saysBothWays(t, list(host(of, api.SideDst, dst...)), plain(), turned, no)
			}
		}
	}
}

// carriers tells which next headers a port speaks of.
func carriers(of int) []int {
	return map[int][]int{api.OfAny: {6, 17}, api.OfTCP: {6}, api.OfUDP: {17}}[of]
}

// The bytes behind the headers are "abcdefgh", or none.
func TestPorts(t *testing.T) {
	const src, dst = 'a'<<8 | 'b', 'c'<<8 | 'd'
	everywhereBut(3, func(s saying, at laid, b []byte) {
		for _, of := range []int{api.OfAny, api.OfTCP, api.OfUDP} {
			there := s.net != 0 && s.begin != 0 && slices.Contains(carriers(of), s.next)
			for _, x := range []struct {
				side  int
				n, m  uint32
				wants bool
			}{
				{api.SideSrc, src, src, true}, {api.SideSrc, dst, dst, false}, {api.SideDst, src, src, false}, {api.SideDst, dst, dst, true}, {api.SideAny, src, src, true}, {api.SideAny, dst, dst, true},
				{api.SideAny, src + 1, dst - 1, false}, {api.SideAny, 0, src - 1, false}, {api.SideAny, dst + 1, 65535, false}, {api.SideSrc, 0, 65535, true}, {api.SideDst, 0, src, false},
			} {
				want := no
				if there {
					want = holds(x.wants)
					if s.begin == len(s.load) {
						want = fault
					}
				}
				saysBothWays(t, list(port(of, x.side, x.n, x.m)), at.link, b, want)
			}
		}
	})
}

// A range takes its ends, and a port of two bytes is read the high byte first.
func TestPortRanges(t *testing.T) {
	for _, next := range []int{6, 17} {
		for _, header := range [][]byte{joined(fromHex("ff03 0021"), headerIP(5, 0, next)), joined(fromHex("ff03 0021"), headerIP(15, 0, next)), joined(fromHex("ff03 0057"), headerIP6(next))} {
			for _, x := range []struct {
				src, dst, n, m         uint32
				any, bySource, byOther int
			}{
				{5, 9, 5, 9, yes, yes, yes}, {5, 9, 6, 8, no, no, no}, {5, 9, 5, 5, yes, yes, no}, {5, 9, 9, 9, yes, no, yes}, {5, 9, 4, 4, no, no, no}, {5, 9, 10, 10, no, no, no}, {5, 9, 0, 5, yes, yes, no}, {5, 9, 9, 65535, yes, no, yes},
				{0, 0, 0, 0, yes, yes, yes}, {0, 0, 1, 65535, no, no, no}, {65535, 65535, 65535, 65535, yes, yes, yes}, {65535, 65535, 0, 65534, no, no, no}, {0x102, 0x201, 0x102, 0x102, yes, yes, no}, {0x102, 0x201, 0x201, 0x201, yes, no, yes}, {256, 1, 1, 255, yes, no, yes},
			} {
				b := joined(header, []byte{byte(x.src >> 8), byte(x.src), byte(x.dst >> 8), byte(x.dst)})
				saysBothWays(t, list(port(api.OfAny, api.SideAny, x.n, x.m)), plain(), b, x.any)
				saysBothWays(t, list(port(api.OfAny, api.SideSrc, x.n, x.m)), plain(), b, x.bySource)
				saysBothWays(t, list(port(api.OfAny, api.SideDst, x.n, x.m)), plain(), b, x.byOther)
			}
		}
	}
}

// A port whose bytes are not all there is a fault, but not where the source says yes already.
func TestPortsNotInFrame(t *testing.T) {
	for _, header := range [][]byte{joined(fromHex("ff03 0021"), headerIP(5, 0, 17)), joined(fromHex("ff03 0057"), headerIP6(17))} {
		for there := range 6 {
			b := joined(header, []byte{0, 53, 0, 54, 0, 55}[:there])
			src, dst := there >= 2, there >= 4
			or := func(inside bool, want int) int {
				if inside {
					return want
				}
				return fault
			}
			for _, of := range []int{api.OfAny, api.OfUDP} {
				saysBothWays(t, list(port(of, api.SideSrc, 53, 53)), plain(), b, or(src, yes))
				saysBothWays(t, list(port(of, api.SideSrc, 54, 54)), plain(), b, or(src, no))
				saysBothWays(t, list(port(of, api.SideDst, 53, 53)), plain(), b, or(dst, no))
				saysBothWays(t, list(port(of, api.SideDst, 54, 54)), plain(), b, or(dst, yes))
				saysBothWays(t, list(port(of, api.SideAny, 53, 53)), plain(), b, or(src, yes))
				saysBothWays(t, list(port(of, api.SideAny, 54, 54)), plain(), b, or(dst, yes))
				saysBothWays(t, list(port(of, api.SideAny, 9, 9)), plain(), b, or(dst, no))
			}
			saysBothWays(t, list(port(api.OfTCP, api.SideAny, 53, 53)), plain(), b, no)
		}
	}
}

// three tells filters that are no, yes and a fault of f.
func three(t *testing.T) [][]api.Node {
	return [][]api.Node{no: source(t, "tcp"), yes: source(t, "udp"), fault: source(t, "ip[99] = 0")}
}

// And, or and not are read from the left, and stop; a fault that is come to is the whole filter's.
func TestAndOrNot(t *testing.T) {
	l := three(t)
	ands := [3][3]int{no: {no: no, yes: no, fault: no}, yes: {no: no, yes: yes, fault: fault}, fault: {no: fault, yes: fault, fault: fault}}
	ors := [3][3]int{no: {no: no, yes: yes, fault: fault}, yes: {no: yes, yes: yes, fault: yes}, fault: {no: fault, yes: fault, fault: fault}}
	others := [3]int{no: yes, yes: no, fault: fault}
	for a := range 3 {
		saysBothWays(t, l[a], plain(), f(), a)
		saysBothWays(t, not(l[a]), plain(), f(), others[a])
		saysBothWays(t, not(not(l[a])), plain(), f(), a)
		for b := range 3 {
			saysBothWays(t, and(l[a], l[b]), plain(), f(), ands[a][b])
			saysBothWays(t, or(l[a], l[b]), plain(), f(), ors[a][b])
			saysBothWays(t, not(and(l[a], l[b])), plain(), f(), others[ands[a][b]])
			saysBothWays(t, and(not(l[a]), l[b]), plain(), f(), ands[others[a]][b])
			saysBothWays(t, or(l[a], not(l[b])), plain(), f(), ors[a][others[b]])
			saysBothWays(t, not(or(not(l[a]), not(l[b]))), plain(), f(), ands[a][b])
			for c := range 3 {
				saysBothWays(t, and(and(l[a], l[b]), l[c]), plain(), f(), ands[ands[a][b]][c])
				saysBothWays(t, and(l[a], or(l[b], l[c])), plain(), f(), ands[a][ors[b][c]])
				saysBothWays(t, or(and(l[a], l[b]), l[c]), plain(), f(), ors[ands[a][b]][c])
				saysBothWays(t, or(l[a], and(l[b], l[c])), plain(), f(), ors[a][ands[b][c]])
			}
		}
	}
}

// Faults of each kind: a load, a division, a port.
func TestFaultsOfEachKind(t *testing.T) {
	b := f()[:24]
	for _, s := range []string{"ip[99] = 0", "ppp[len] = 0", "udp[0] = 0", "len / ip[1] = 0", "len % ip[1] = 0", "src port 53", "dst port 53", "port 53", "udp portrange 0-65535"} {
		l := source(t, s)
		for _, x := range [][]api.Node{l, not(l), and(l, list(ip())), or(l, list(ip())), and(list(ip()), l), or(source(t, "tcp"), l), not(not(l))} {
			saysBothWays(t, x, plain(), b, fault)
		}
		saysBothWays(t, or(list(ip()), l), plain(), b, yes)
		saysBothWays(t, and(source(t, "tcp"), l), plain(), b, no)
	}
}

// one tells a filter of each kind, and of each name, side and operator.
func one() [][]api.Node {
	var out [][]api.Node
	for of := api.OfIP; of <= api.OfMP; of++ {
		out = append(out, list(word(of)))
	}
	for of := api.OfPPP; of <= api.OfIP6CP; of++ {
		out = append(out, list(number(0), load(of, 1), number(0), rel(api.OpGe)))
	}
	for op := api.OpEq; op <= api.OpGe; op++ {
		out = append(out, list(number(1), number(1), rel(op)), list(kind(api.NodeLen), number(1), kind(api.NodeMinus), rel(op)))
	}
	for op := api.OpAdd; op <= api.OpShr; op++ {
		out = append(out, list(number(1), number(1), arith(op), number(0), rel(api.OpGe)))
	}
	for _, side := range sides() {
		out = append(out, list(host(api.OfIP, side)), list(host(api.OfIP6, side)), list(net(api.OfIP, side, 0)), list(net(api.OfIP6, side, 0)))
		for _, of := range []int{api.OfAny, api.OfTCP, api.OfUDP} {
			out = append(out, list(port(of, side, 0, 65535)))
		}
	}
	out = append(out, list(goes(api.SideSrc)), list(goes(api.SideDst)), list(proto(0)), list(proto(33)), list(next(api.OfIP, 0)), list(next(api.OfIP6, 0)))
	for _, l := range slices.Clone(out) {
		out = append(out, not(l), and(list(ip()), l), or(list(ip()), l), and(l, list(ip())), or(l, list(ip())))
	}
	return out
}

// Bytes that are not well formed are a fault, whatever the filter is.
func TestNotWellFormed(t *testing.T) {
	short := func(b []byte) []byte { return b[:len(b)-1] }
	for _, x := range []struct {
		links []api.Link
		b     []byte
	}{
		{links(), nil}, {links(), fromHex("ff03")}, {links(), fromHex("ff03 00")}, {links(), fromHex("ff03 0020")}, {links(), fromHex("ff03 c0")}, {links(), fromHex("ff03 c022")},
		{links(), fromHex("ff03 0021")}, {links(), joined(fromHex("ff03 0021"), short(headerIP(5, 0, 6)))}, {links(), joined(fromHex("ff03 0021"), short(headerIP(15, 0, 6)))}, {links(), joined(fromHex("ff03 0021"), headerIP6(6))}, {links(), joined(fromHex("ff03 0021 44"), make([]byte, 30))},
		{links(), fromHex("ff03 0057")}, {links(), joined(fromHex("ff03 0057"), short(headerIP6(6)))}, {links(), joined(fromHex("ff03 0057"), headerIP(15, 0, 6))},
		{links(), make([]byte, api.MaxFrame+1)}, {links(), behind(f(), api.MaxFrame+1-28)}, {links(), behind(f(), 1<<17)},
		{links()[:6], f()[2:]}, {links()[:6], fromHex("ff")}, {links()[:6], fromHex("c021 01")},
		{[]api.Link{{}, {MP: 1}, {ACFC: true}, {ACFC: true, MP: 2}}, fromHex("ff03 21 45")},
		{[]api.Link{{MP: 1}, {ACFC: true, PFC: true, MP: 1}}, fromHex("ff03 003d 9007 c021")}, {[]api.Link{{MP: 2}, {ACFC: true, PFC: true, MP: 2}}, fromHex("ff03 003d 81000000 c021")}, {[]api.Link{{MP: 2}}, fromHex("ff03 003d 8000")},
	} {
		for _, link := range x.links {
			for _, l := range one() {
				saysBothWays(t, l, link, x.b, fault)
			}
			for _, s := range []string{"0", "5", "len", "ppp[0]", "tcp[0]", "1 + 1", "-1", "len / len"} {
				comesTo(t, source(t, s), link, x.b, 0, fault)
			}
		}
	}
}
