package opt_test

import (
	"encoding/hex"
	"math/rand"
	"slices"
	"strings"
	"testing"

	"riddle/api"
	"riddle/check"
	"riddle/frame"
	"riddle/graph"
	"riddle/lower"
	"riddle/mean"
	"riddle/parse"
)

// maker makes graphs and programs by chance, the same each time.
type maker struct {
	*rand.Rand
	codes, asked []api.Insn
}

func newMaker(seed int64) maker {
	m := maker{Rand: rand.New(rand.NewSource(seed)), asked: each(questions())}
	for _, i := range each(straights()) {
		// Places that few packets have end most runs ahead of anything worth a look.
		if !slices.Contains(mayFail(), i) || i.K < 6 {
			m.codes = append(m.codes, i)
		}
	}
	// What hands words on counts for more.
	for range 6 {
		m.codes = append(m.codes, k(api.LdImm, 5), k(api.LdxImm, 3), k(api.LdMem, 3), k(api.LdxMem, 3), k(api.St, 3), k(api.Stx, 3), k(api.LdAbsB, 0), k(api.LdAbsB, 1), k(api.Tax, 0), k(api.Txa, 0), k(api.LdLen, 0), k(api.LdMem, 0), k(api.St, 0))
	}
	return m
}

func (m maker) code(most int) []api.Insn {
	var out []api.Insn
	for range m.Intn(most + 1) {
		out = append(out, m.codes[m.Intn(len(m.codes))])
	}
	return out
}

func (m maker) question() api.Insn { return m.asked[m.Intn(len(m.asked))] }

// ending tells a block that returns.
func (m maker) ending(code ...api.Insn) api.Block {
	switch m.Intn(4) {
	case 0:
		return ret(0, code...)
	case 1:
		return ret(uint32(m.Intn(5)), code...)
	case 2:
		return retA(append(code, sum()...)...)
	}
	return retA(code...)
}

// graph tells one of n blocks with Codes of at most so many instructions, whose goals are at most so far.
func (m maker) graph(n, most, far int) []api.Block {
	out := make([]api.Block, n)
	for at := range out {
		left := min(n-1-at, far)
		switch kind := m.Intn(12); {
		case left == 0 || kind == 0:
			out[at] = m.ending(m.code(most)...)
		case kind < 5:
			out[at] = goes(at+1+m.Intn(left), m.code(most)...)
		default:
			out[at] = test(m.question(), at+1+m.Intn(left), at+1+m.Intn(left), m.code(most)...)
		}
	}
	return out
}

func (m maker) packet() []byte {
	out := make([]byte, m.Intn(14))
	for at := range out {
		out[at] = []byte{0, 1, 3, 5, 7, 32, 255}[m.Intn(7)]
	}
	return out
}

func (m maker) packets(n int) [][]byte {
	var out [][]byte
	for range n {
		out = append(out, m.packet())
	}
	return out
}

// TestGraphsByChance has graphs of all shapes, and asks that there is something to them.
func TestGraphsByChance(t *testing.T) {
	t.Parallel()
	m := newMaker(17)
	smaller, left, whole := 0, 0, 0
	for range 10000 {
		g := m.graph(1+m.Intn(30), m.Intn(4), 1+m.Intn(8))
		if m.Intn(4) > 0 {
			g[0] = behind(g[0], unknown()...)
		}
		h := improved(t, "by chance", g, m.packets(8))
		was, _ := counts(t, g)
		is, _ := counts(t, h)
		whole++
		if is < was {
			smaller++
		}
		if len(h) > 3 {
			left++
		}
	}
	if smaller < whole/2 || left < whole/10 {
		t.Errorf("of %d graphs %d became smaller, of %d more than three blocks were left", whole, smaller, left)
	}
}

// TestGreatGraphsByChance has such of many blocks.
func TestGreatGraphsByChance(t *testing.T) {
	t.Parallel()
	m := newMaker(18)
	for round := range 40 {
		n := 200 + m.Intn(api.MaxBlocks-200)
		g := m.graph(n, 1, []int{2, 3, 5, 10, 40, n}[round%6])
		for at := range g {
			// The ends that show all words would be too long together.
			if len(g[at].Code) > 1 {
				g[at] = retA()
			}
		}
		improved(t, "a great one by chance", g, m.packets(3))
	}
}

// TestProgramsByChance has the graphs of programs.
func TestProgramsByChance(t *testing.T) {
	t.Parallel()
	m := newMaker(19)
	for round := range 5000 {
		n := 1 + m.Intn(24)
		if round%500 == 0 {
			n = 1 + m.Intn(api.MaxProgram)
		}
		p := make([]api.Insn, n)
		for at := range p {
			left := min(n-1-at, 256)
			switch kind := m.Intn(10); {
			case left == 0 || kind == 0:
				p[at] = k([]uint16{api.RetK, api.RetA}[m.Intn(2)], uint32(m.Intn(4)))
			case kind == 1:
				p[at] = k(api.Ja, uint32(m.Intn(min(left, 9))))
			case kind < 5:
				p[at] = m.question()
				p[at].Jt, p[at].Jf = uint8(m.Intn(min(left, 4))), uint8(m.Intn(min(left, 9)))
			default:
				p[at] = m.codes[m.Intn(len(m.codes))]
			}
		}
		if place, e := check.Check(p); e != api.OK {
			t.Fatalf("check does not take %v: %d at %d", p, e, place)
		}
		g, e := graph.Of(p)
		if e != api.OK {
			t.Fatalf("graph does not take %v: %d", p, e)
		}
		improved(t, "a program", g, m.packets(6))
	}
}

func TestPrograms(t *testing.T) {
	for _, text := range []string{
		"ret #7", "ret a", "ja 0\nja 0\nret #7", "ldb [0]\nret a", "ld len\nret a",
		"ldb [0]\nst M[0]\nld M[0]\nst M[0]\nldx M[0]\ntxa\ntax\nadd x\nret a",
		"ldb [0]\njeq #5 0 3\nadd #1\njeq #6 0 1\nret #1\nret #2", "ldb [0]\njeq #5 1 0\nja 1\nja 0\nret a",
		"ldx #40\nldb [0]\nlsh x\nadd #3\nret a", "ldx len\nldb [x+4294967295]\nret #1", "ld #1\ndiv x\nret #9",
		"ldb [0]\ntax\nldb [1]\njeq x 0 2\nsub x\nret a\nxor x\nret a", "ldxb 4*([0]&15)\nldb [x+1]\njset #4 1 0\nret #0\nstx M[2]\nld M[2]\nret a",
	} {
		improved(t, text, of(t, text), append(few(), packets()...))
	}
}

// fromHex tells the bytes of digits, blanks between them left aside.
func fromHex(s string) []byte {
	b, err := hex.DecodeString(strings.ReplaceAll(s, " ", ""))
	if err != nil {
		panic(err)
	}
	return b
}

// frames tells some of each kind, and all beginnings of one.
func frames() [][]byte {
	udp := fromHex("ff 03 00 21 45 00 00 18 00 00 00 00 40 11 00 00 01 02 03 04 05 06 07 08 00 35 00 36")
	six := fromHex("00 57 60 00 00 00 00 08 06 40 fe80 0000 0000 0000 0000 0000 0000 0001 2001 0db8 0000 0000 0000 0000 0000 0002 00 50 00 05 00 00 00 01")
	out := [][]byte{
		fromHex("ff 03 c0 21 01 02 00 04"), fromHex("c0 21 01"), fromHex("ff 03 80 21 05"), fromHex("21 46 00 00 18 00 00 00 00 40 06 00 00 01 02 03 04 05 06 07 08 01 01 01 01 00 05 00 50 99"),
		fromHex("ff 03 00 21 45 00 00 18 00 00 20 07 40 11 00 00 01 02 03 04 05 06 07 08 00 35 00 36"), slices.Concat(fromHex("ff 03"), six), six,
		fromHex("ff 03 00 3d 80 07 00 21 45 00 00 14 00 00 00 00 40 01 00 00 01 02 03 04 05 06 07 08"), fromHex("ff 03 00 3d 40 07 00 21"), fromHex("3d c0 00 00 07 57 60"), slices.Concat(fromHex("3d c0 00 00 07"), six), fromHex("ff 03 00 22"), fromHex("ff 04 00 21"),
	}
	for n := range len(udp) + 1 {
		out = append(out, udp[:n])
	}
	return out
}

// links tells all links that may be.
func links() []api.Link {
	var out []api.Link
	for n := range 12 {
		out = append(out, api.Link{ACFC: n&1 != 0, PFC: n&2 != 0, MP: n / 4})
	}
	return out
}

// wire tells the packets of frames, both ways.
func wire() [][]byte {
	var out [][]byte
	for _, b := range frames() {
		out = append(out, frame.Packet(api.WayIn, b), frame.Packet(api.WayOut, b))
	}
	return out
}

// expectFilter holds the answer to a filter's graph to the graph, and to what the filter says.
func expectFilter(t *testing.T, source string, link api.Link) {
	t.Helper()
	l, _, place, e := parse.Parse(source)
	if e != api.OK {
		t.Fatalf("%q: %d at %d", source, e, place)
	}
	g, e := lower.Lower(l, link)
	if e != api.OK {
		t.Fatalf("%q: %d", source, e)
	}
	h := improved(t, source, g, append(wire(), nil))
	for _, b := range frames() {
		for _, way := range []int{api.WayIn, api.WayOut} {
			matches, _ := mean.Match(l, link, way, b)
			v, _ := graph.Run(h, frame.Packet(way, b))
			if (v.Value != 0) != matches {
				t.Fatalf("P17.1: %q, %+v over % x: %+v, mean tells %v", source, link, b, v, matches)
			}
		}
	}
}

// truths tells sources of each kind.
func truths() []string {
	return []string{
		"ip", "ip6", "tcp", "udp", "icmp", "icmp6", "lcp", "pap", "ipcp", "mp", "inbound", "outbound", "proto 33", "proto 0x57", "ip proto 17", "ip6 proto 6",
		"host 1.2.3.4", "src host 5.6.7.8", "dst host fe80::1", "net 5.6.0.0/16", "net fe80::/10", "net 0.0.0.0/0", "net ::/0", "port 54", "tcp src port 80", "udp dst portrange 50-60",
		"1 = 1", "1 = 2", "len > 5", "len = 28", "ip[0] & 15 = 5", "ip[ip[0] & 15] / (len - 3) = udp[0:2] << 2", "ppp[2:2] = 0x21", "udp[0:2] = 53", "tcp[len] = 0", "-len + ip[9] * 2 != 4 % (len - 28)", "lcp[0] = 1", "len >> len < 3",
	}
}

func TestFilters(t *testing.T) {
	t.Parallel()
	for n, source := range truths() {
		for m, link := range links() {
			if n%3 == m%3 {
				expectFilter(t, source, link)
			}
		}
	}
	m := newMaker(20)
	all := truths()
	for round := range 250 {
		source := all[m.Intn(len(all))]
		for range m.Intn(6) {
			other := all[m.Intn(len(all))]
			switch m.Intn(4) {
			case 0:
				source = "not (" + source + ")"
			case 1:
				source = "(" + source + ") and " + other
			case 2:
				source = other + " or (" + source + ")"
			default:
				source = "(" + source + ") or not " + other
			}
		}
		expectFilter(t, source, links()[round%12])
	}
	// Filters about as heavy as may be.
	expectFilter(t, strings.Repeat("host 1.2.3.5 or ", 90)+"icmp", api.Link{})
	expectFilter(t, strings.Repeat("(udp or tcp) and not port 9 and ", 40)+"len > 4", api.Link{ACFC: true, PFC: true, MP: api.MultiLong})
}

// TestFiltersBecomeSmaller: what a filter does not ask for is gone.
func TestFiltersBecomeSmaller(t *testing.T) {
	for source, most := range map[string]int{"1 = 2": 1, "not ip and not ip6": 12, "ip": 24, "not (ip or ip6 or lcp)": 14, "tcp and udp": 40} {
		l, _, _, _ := parse.Parse(source)
		g, _ := lower.Lower(l, api.Link{})
		was, _ := counts(t, g)
		if size, _ := counts(t, improved(t, source, g, wire())); size > most {
			t.Errorf("%q: a Size of %d, was %d; want at most %d", source, size, was, most)
		}
	}
}

func BenchmarkImprove(b *testing.B) {
	l, _, _, _ := parse.Parse(strings.Repeat("host 1.2.3.5 or ", 90) + "icmp")
	g, _ := lower.Lower(l, api.Link{ACFC: true, PFC: true, MP: api.MultiLong})
	for b.Loop() {
		improve(b, g)
	}
}
