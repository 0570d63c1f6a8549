package line_test

import (
	"encoding/hex"
	"math"
	"math/rand"
	"slices"
	"strings"
	"testing"

	"riddle/api"
	"riddle/asm"
	"riddle/check"
	"riddle/frame"
	"riddle/graph"
	"riddle/insn"
	"riddle/lower"
	"riddle/mean"
	"riddle/opt"
	"riddle/parse"
	"riddle/types"
)

// maker makes graphs, programs and packets by chance, the same each time.
type maker struct {
	*rand.Rand
	codes, questions []api.Insn
}

func newMaker(seed int64) maker {
	m := maker{Rand: rand.New(rand.NewSource(seed))}
	for code := range uint16(256) {
		looks, asks, _ := insn.Uses(code)
		values := []uint32{0}
		if looks {
			values = []uint32{1, 2, 3, 7, 15}
		}
		for _, v := range values {
			switch class := insn.Class(code); {
			case asks:
				m.questions = append(m.questions, k(code, v))
			case class != -1 && class != api.ClassJmp && class != api.ClassRet:
				m.codes = append(m.codes, k(code, v))
			}
		}
	}
	return m
}

// code tells at most so many instructions; such as may end a run are seldom.
func (m maker) code(most int) []api.Insn {
	var out []api.Insn
	for range m.Intn(most + 1) {
		i := m.codes[m.Intn(len(m.codes))]
		if _, _, faults := insn.Uses(i.Code); faults && m.Intn(4) > 0 {
			i = k(api.AddK, uint32(m.Intn(3)))
		}
		out = append(out, i)
	}
	return out
}

func (m maker) question() api.Insn { return m.questions[m.Intn(len(m.questions))] }

// graph tells one of n blocks with Codes of at most so many instructions, whose goals are at most so far.
func (m maker) graph(n, most, far int) []api.Block {
	out := make([]api.Block, n)
	for at := range out {
		left := min(n-1-at, far)
		switch kind := m.Intn(16); {
		case left == 0 || kind == 0:
			out[at] = ret(uint32(m.Intn(5)), m.code(most)...)
		case kind == 1:
			out[at] = retA(m.code(most)...)
		case kind < 5:
			out[at] = goes(at+1+m.Intn(left), m.code(most)...)
		case kind == 5:
			goal := at + 1 + m.Intn(left)
			out[at] = test(m.question(), goal, goal, m.code(most)...)
		case kind < 11:
			out[at] = test(m.question(), at+1, at+1+m.Intn(left), m.code(most)...)
		default:
			out[at] = test(m.question(), at+1+m.Intn(left), at+1+m.Intn(left), m.code(most)...)
		}
	}
	out[n-1].Code = append(out[n-1].Code, k(api.AddK, 1))
	return out
}

func (m maker) packets(n int) [][]byte {
	var out [][]byte
	for range n {
		packet := make([]byte, m.Intn(24))
		for at := range packet {
			packet[at] = []byte{0, 1, 3, 7, 15, 255}[m.Intn(6)]
		}
		out = append(out, packet)
	}
	return out
}

// shortest is a second reckoning: which goals need a Ja is found from none on, by laying all out again till no goal is too far.
func shortest(g []api.Block) int {
	needs := make([]map[int]int, len(g))
	for {
		begins := []int{0}
		for at, b := range g {
			size := len(b.Code) + len(needs[at])
			if b.End != api.EndGo {
				size++
			}
			begins = append(begins, begins[at]+size)
		}
		again := false
		for at, b := range g {
			most := 0
			switch b.End {
			case api.EndReturn:
				continue
			case api.EndTest:
				most = math.MaxUint8 - len(needs[at])
			}
			goals := []int{b.Yes}
			if b.End == api.EndTest {
				goals = append(goals, b.No)
			}
			for _, goal := range goals {
				if _, has := needs[at][goal]; !has && begins[goal]-begins[at+1] > most {
					if needs[at] == nil {
						needs[at] = map[int]int{}
					}
					needs[at][goal]++
					again = true
				}
			}
		}
		if !again {
			return begins[len(g)]
		}
	}
}

// TestGraphsByChance has graphs of all shapes, near and far; none is longer than it must be where blocks stand in their order, and each has its own Ja.
func TestGraphsByChance(t *testing.T) {
	t.Parallel()
	m := newMaker(18)
	faults, far, one, two := map[int]int{}, 0, 0, 0
	for round := range 6000 {
		n, most, reach := 1+m.Intn(20), m.Intn(4), 1+m.Intn(10)
		if round%4 == 0 {
			n, most, reach = 100+m.Intn(500), m.Intn(3), 60+m.Intn(200)
		}
		g := m.graph(n, most, reach)
		for range m.Intn(3) {
			at := m.Intn(len(g))
			g[at].Code = append(g[at].Code, many(m.Intn(300))...)
		}
		packets := m.packets(6)
		p := laid(t, "by chance", g, packets...)
		if want := shortest(g); len(p) != want {
			t.Fatalf("%d instructions; want %d: %+v", len(p), want, short(g))
		}
		for _, packet := range packets {
			v := run(t, p, packet)
			faults[v.Fault]++
			if byWay(t, p, packet) > 0 {
				far++
			}
		}
		for at := range p[:len(p)-1] {
			if _, asks, _ := insn.Uses(p[at].Code); asks && p[at+1].Code == api.Ja {
				one++
				if p[at+2].Code == api.Ja {
					two++
				}
			}
		}
	}
	if len(faults) != 3 || faults[api.FaultNone] < 1000 || faults[api.FaultLoad] < 1000 || faults[api.FaultZero] < 100 || far < 1000 || one < 1000 || two < 1000 {
		t.Errorf("runs by how they end %v, %d by a Ja; %d tests with a Ja, %d with two", faults, far, one, two)
	}
}

// bare tells an instruction of a program without what it does not look at.
func bare(i api.Insn) api.Insn {
	out := api.Insn{Code: i.Code}
	looks, asks, _ := insn.Uses(i.Code)
	if looks {
		out.K = i.K
	}
	if asks {
		out.Jt, out.Jf = i.Jt, i.Jf
	}
	return out
}

// program tells one of n instructions that check takes.
func (m maker) program(n int) []api.Insn {
	out := make([]api.Insn, n)
	for at := range out {
		left := min(n-1-at, 256)
		switch kind := m.Intn(12); {
		case left == 0 || kind == 0:
			out[at] = k([]uint16{api.RetK, api.RetA}[m.Intn(2)], uint32(m.Intn(4)))
		case kind == 1:
			out[at] = k(api.Ja, uint32(m.Intn(n-1-at)))
		case kind < 5:
			out[at] = m.question()
			out[at].Jt, out[at].Jf = uint8(m.Intn(left)), uint8(m.Intn(min(left, 9)))
		default:
			out[at] = m.codes[m.Intn(len(m.codes))]
		}
	}
	return out
}

// expectProgram lays out the graph of a program, and what opt makes of it.
func expectProgram(t *testing.T, p []api.Insn, packets [][]byte) {
	t.Helper()
	if place, e := check.Check(p); e != api.OK {
		t.Fatalf("check does not take %v: %d at %d", p, e, place)
	}
	g, e := graph.Of(p)
	if e != api.OK {
		t.Fatalf("graph does not take %v: %d", p, e)
	}
	h, e := opt.Improve(g)
	if e != api.OK {
		t.Fatalf("opt does not take %+v: %d", short(g), e)
	}
	// A test of a program counts 1 in it, and 3 in the Measure of its graph: that may be too much.
	for _, g := range [][]api.Block{g, h} {
		if measured(t, g) > api.MaxProgram {
			refuses(t, "a program", g, api.ErrLineLong)
			continue
		}
		q := laid(t, "a program", g, packets...)
		if len(q) > len(p) {
			t.Fatalf("%d instructions, and the program had %d", len(q), len(p))
		}
		for _, packet := range packets {
			if v, was := run(t, q, packet), run(t, p, packet); v.Value != was.Value {
				t.Fatalf("T4: over % x: %+v, of the program %+v", packet, v, was)
			}
		}
	}
	// Each jump of a program is laid as it was, but for a Ja to the next instruction.
	if slices.Contains(p, k(api.Ja, 0)) || measured(t, g) > api.MaxProgram {
		return
	}
	var want []api.Insn
	for _, i := range p {
		if class := insn.Class(i.Code); class == api.ClassJmp || class == api.ClassRet {
			i = bare(i)
		}
		want = append(want, i)
	}
	if q := linear(t, g); !slices.Equal(q, want) {
		t.Fatalf("%v; want %v", q, want)
	}
}

func TestProgramsByChance(t *testing.T) {
	t.Parallel()
	m := newMaker(19)
	for round := range 3000 {
		n := 1 + m.Intn(30)
		if round%30 == 0 {
			n = 1 + m.Intn(2000)
		}
		if round%300 == 0 {
			n = api.MaxProgram - m.Intn(2)
		}
		expectProgram(t, m.program(n), m.packets(5))
	}
}

func TestProgramsOfText(t *testing.T) {
	for _, text := range []string{
		"ret #7", "ret a", "ja 0\nja 0\nret #7", "ja 1\nret #1\nret #7", "ldb [0]\nret a", "ld len\nret a",
		"ldb [0]\nst M[0]\nld M[0]\nst M[0]\nldx M[0]\ntxa\ntax\nadd x\nret a",
		"ldb [0]\njeq #5 0 3\nadd #1\njeq #6 0 1\nret #1\nret #2", "ldb [0]\njeq #5 1 0\nja 1\nja 0\nret a",
		"ldx #40\nldb [0]\nlsh x\nadd #3\nret a", "ldx len\nldb [x+4294967295]\nret #1", "ld #1\ndiv x\nret #9",
		"ldb [0]\ntax\nldb [1]\njeq x 0 2\nsub x\nret a\nxor x\nret a",
		"ldb [0]\njgt #5 255 0\n" + repeat("add #1\n", 254) + "ret #1\nret #2", "ldb [0]\njgt #5 1 0\nja 255\n" + repeat("add #1\n", 254) + "ret #1\nret #2",
	} {
		p, place, e := asm.Parse(text)
		if e != api.OK {
			t.Fatalf("%q: %d at %d", text, e, place)
		}
		expectProgram(t, p, few())
	}
}

// fromHex tells the bytes of digits, blanks between them left aside.
func fromHex(s string) []byte {
	b, err := hex.DecodeString(strings.ReplaceAll(s, " ", ""))
	if err != nil {
		panic(err)
	}
	return b
}

// frames tells some of each kind, and all beginnings of one.
func frames() [][]byte {
	udp := fromHex("ff 03 00 21 45 00 00 18 00 00 00 00 40 11 00 00 01 02 03 04 05 06 07 08 00 35 00 36")
	six := fromHex("00 57 60 00 00 00 00 08 06 40 fe80 0000 0000 0000 0000 0000 0000 0001 2001 0db8 0000 0000 0000 0000 0000 0002 00 50 00 05 00 00 00 01")
	out := [][]byte{
		fromHex("ff 03 c0 21 01 02 00 04"), fromHex("c0 21 01"), fromHex("ff 03 80 21 05"), fromHex("21 46 00 00 18 00 00 00 00 40 06 00 00 01 02 03 04 05 06 07 08 01 01 01 01 00 05 00 50 99"),
		fromHex("ff 03 00 21 45 00 00 18 00 00 20 07 40 11 00 00 01 02 03 04 05 06 07 08 00 35 00 36"), slices.Concat(fromHex("ff 03"), six), six,
		fromHex("ff 03 00 3d 80 07 00 21 45 00 00 14 00 00 00 00 40 01 00 00 01 02 03 04 05 06 07 08"), fromHex("ff 03 00 3d 40 07 00 21"), fromHex("3d c0 00 00 07 57 60"), slices.Concat(fromHex("3d c0 00 00 07"), six), fromHex("ff 03 00 22"), fromHex("ff 04 00 21"),
	}
	for n := range len(udp) + 1 {
		out = append(out, udp[:n])
	}
	return out
}

// expectFilter lays out a filter's graph, and what opt makes of it, and holds both to what the filter says.
func expectFilter(t *testing.T, source string, link api.Link) {
	t.Helper()
	l, _, place, e := parse.Parse(source)
	if e != api.OK {
		t.Fatalf("%q: %d at %d", source, e, place)
	}
	g, e := lower.Lower(l, link)
	if e != api.OK {
		t.Fatalf("%q: %d", source, e)
	}
	h, e := opt.Improve(g)
	if e != api.OK {
		t.Fatalf("%q: %d", source, e)
	}
	for _, g := range [][]api.Block{g, h} {
		p := laid(t, source, g, nil)
		for _, b := range frames() {
			for _, way := range []int{api.WayIn, api.WayOut} {
				packet := frame.Packet(way, b)
				was, _ := graph.Run(g, packet)
				v := run(t, p, packet)
				if v.Value != was.Value || v.Fault != was.Fault || v.Steps < was.Steps {
					t.Fatalf("P18.2: %.200q, %+v over % x: %+v, of the graph %+v", source, link, packet, v, was)
				}
				if matches, _ := mean.Match(l, link, way, b); (v.Value != 0) != matches {
					t.Fatalf("T1: %.200q, %+v over % x: %+v, mean tells %v", source, link, packet, v, matches)
				}
			}
		}
	}
}

func links() []api.Link {
	var out []api.Link
	for n := range 12 {
		out = append(out, api.Link{ACFC: n&1 != 0, PFC: n&2 != 0, MP: n / 4})
	}
	return out
}

func TestFilters(t *testing.T) {
	t.Parallel()
	truths := []string{
		"ip", "ip6", "tcp", "udp", "icmp", "icmp6", "lcp", "pap", "ipcp", "mp", "inbound", "outbound", "proto 33", "ip proto 17", "ip6 proto 6",
		"host 1.2.3.4", "src host 5.6.7.8", "dst host fe80::1", "net 5.6.0.0/16", "net fe80::/10", "port 54", "tcp src port 80", "udp dst portrange 50-60",
		"1 = 1", "1 = 2", "len > 5", "ip[0] & 15 = 5", "ip[ip[0] & 15] / (len - 3) = udp[0:2] << 2", "ppp[2:2] = 0x21", "tcp[len] = 0", "-len + ip[9] * 2 != 4 % (len - 28)", "lcp[0] = 1",
	}
	for n, source := range truths {
		for m, link := range links() {
			if n%3 == m%3 {
				expectFilter(t, source, link)
			}
		}
	}
	m := newMaker(20)
	for round := range 100 {
		source := truths[m.Intn(len(truths))]
		for range 2 + m.Intn(12) {
			other := truths[m.Intn(len(truths))]
			switch m.Intn(3) {
			case 0:
				source = "not (" + source + ") or " + other
			case 1:
				source = "(" + source + ") and not " + other
			default:
				source = other + " or (" + source + ")"
			}
		}
		expectFilter(t, source, links()[round%12])
	}
}

// heaviest tells a source with as many of a part as a filter may have.
func heaviest(t *testing.T, head, part, tail string) string {
	t.Helper()
	for n := 1; ; n++ {
		l, _, _, e := parse.Parse(head + repeat(part, n+1) + tail)
		if e != api.OK {
			t.Fatalf("%q: %d", part, e)
		}
		if _, e := types.Check(l); e != api.OK {
			return head + repeat(part, n) + tail
		}
	}
}

// TestHeavyFilters has such as are as heavy as may be: what they ask for first leads far.
func TestHeavyFilters(t *testing.T) {
	t.Parallel()
	for _, source := range []string{
		heaviest(t, "", "host 1.2.3.5 or ", "icmp"), heaviest(t, "", "(udp or tcp) and not port 9 and ", "len > 4"),
		heaviest(t, "", "host fe80::2 or ", "udp"), heaviest(t, "", "len > 3 and ", "udp"), heaviest(t, "not (", "ip[1] = 7 or ", "tcp)"), heaviest(t, "", "inbound and ", "outbound"),
	} {
		for _, link := range []api.Link{{}, {ACFC: true, PFC: true, MP: api.MultiLong}} {
			expectFilter(t, source, link)
		}
	}
}
