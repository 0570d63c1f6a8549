package lower_test

import (
	"encoding/hex"
	"fmt"
	"regexp"
	"slices"
	"strings"
	"testing"

	"riddle/api"
	"riddle/frame"
	"riddle/graph"
	"riddle/lower"
	"riddle/mean"
	"riddle/parse"
)

func number(n uint32) api.Node       { return api.Node{Kind: api.NodeNumber, N: n} }
func word(of int) api.Node           { return api.Node{Kind: api.NodeWord, Of: of} }
func load(of int, size int) api.Node { return api.Node{Kind: api.NodeLoad, Of: of, Size: size} }
func arith(op int) api.Node          { return api.Node{Kind: api.NodeArith, Op: op} }
func rel(op int) api.Node            { return api.Node{Kind: api.NodeRel, Op: op} }
func kind(k int) api.Node            { return api.Node{Kind: k} }
func goes(side int) api.Node         { return api.Node{Kind: api.NodeWay, Side: side} }
func proto(n uint32) api.Node        { return api.Node{Kind: api.NodeProto, N: n} }
func next(of int, n uint32) api.Node { return api.Node{Kind: api.NodeNext, Of: of, N: n} }
func list(l ...api.Node) []api.Node  { return l }

func port(of, side int, n, m uint32) api.Node {
	return api.Node{Kind: api.NodePort, Of: of, Side: side, N: n, M: m}
}

func host(of, side int, address ...byte) api.Node {
	node := api.Node{Kind: api.NodeHost, Of: of, Side: side}
	copy(node.Addr[:], address)
	return node
}

func net(of, side, bits int, address ...byte) api.Node {
	node := host(of, side, address...)
	node.Kind, node.Bits = api.NodeNet, bits
	return node
}

func not(l []api.Node) []api.Node       { return slices.Concat(l, list(kind(api.NodeNot))) }
func and(a, b []api.Node) []api.Node    { return slices.Concat(a, b, list(kind(api.NodeAnd))) }
func or(a, b []api.Node) []api.Node     { return slices.Concat(a, b, list(kind(api.NodeOr))) }
func joined(parts ...[]byte) []byte     { return slices.Concat(parts...) }
func behind(b []byte, n int) []byte     { return joined(b, make([]byte, n)) }
func ways() []int                       { return []int{api.WayIn, api.WayOut} }
func sides() []int                      { return []int{api.SideAny, api.SideSrc, api.SideDst} }
func sizes() []int                      { return []int{1, 2, 4} }
func plain() api.Link                   { return api.Link{} }
func judgedAs(how int) string           { return []string{"no", "yes", "fault"}[how] }
func many(n int, k api.Node) []api.Node { return slices.Repeat(list(k), n) }

func compared(op int, a, b []api.Node) []api.Node { return slices.Concat(a, b, list(rel(op))) }
func reckoned(op int, a, b []api.Node) []api.Node { return slices.Concat(a, b, list(arith(op))) }

// fromHex tells the bytes of digits, blanks between them left aside.
func fromHex(s string) []byte {
	b, err := hex.DecodeString(strings.ReplaceAll(s, " ", ""))
	if err != nil {
		panic(err)
	}
	return b
}

// f is the frame of the chapter's examples.
func f() []byte {
	return fromHex("ff 03 00 21 45 00 00 18 00 00 00 00 40 11 00 00 01 02 03 04 05 06 07 08 00 35 00 36")
}

// source tells the tree of a source.
func source(t *testing.T, s string) []api.Node {
	t.Helper()
	l, _, place, e := parse.Parse(s)
	if e != api.OK {
		t.Fatalf("%q: %d, %d", s, place, e)
	}
	return l
}

// told tells a list in few words: of each node what is not zero.
func told(l []api.Node) string {
	var out []string
	for _, n := range l[:min(len(l), 40)] {
		out = append(out, regexp.MustCompile(`(\w+:0|Addr:\[0( 0)*\]) ?`).ReplaceAllString(fmt.Sprintf("%+v", n), ""))
	}
	return fmt.Sprintf("%.400s", strings.Join(out, " "))
}

// lowered tells the graph of a filter, which graph takes and which may be laid out.
func lowered(t *testing.T, l []api.Node, link api.Link) []api.Block {
	t.Helper()
	g, e := lower.Lower(l, link)
	if e != api.OK {
		t.Fatalf("P16.1: %s, %+v: %d", told(l), link, e)
	}
	if place, e := graph.Check(g); place != 0 || e != api.OK {
		t.Fatalf("P16.1: %s, %+v: graph tells %d, %d", told(l), link, place, e)
	}
	if n, e := graph.Measure(g); n > api.MaxProgram || e != api.OK {
		t.Fatalf("P16.1: %s, %+v: a Measure of %d, %d", told(l), link, n, e)
	}
	return g
}

// comesTo holds a graph's run to what is wanted.
func comesTo(t *testing.T, g []api.Block, l []api.Node, link api.Link, way int, b []byte, want uint32) {
	t.Helper()
	if v, e := graph.Run(g, frame.Packet(way, b)); v.Value != want || e != api.OK {
		t.Errorf("P16.2: %s, %+v, way %d, %.120x: %+v, %d; want %d", told(l), link, way, b, v, e, want)
	}
}

// tally counts what filters said.
type tally [3]int

// enough asks that each was said often enough to tell something.
func (n tally) enough(t *testing.T, least int) {
	t.Helper()
	for how, got := range n {
		if got < least {
			t.Errorf("only %d times %s", got, judgedAs(how))
		}
	}
}

// agrees holds the runs of a filter's graph, both ways, to what the filter says of frames.
func (n *tally) agrees(t *testing.T, l []api.Node, link api.Link, frames ...[]byte) {
	t.Helper()
	g := lowered(t, l, link)
	for _, b := range frames {
		for _, way := range ways() {
			how, e := mean.Judge(l, link, way, b)
			if e != api.OK {
				t.Fatalf("%s is no filter: %d", told(l), e)
			}
			n[how]++
			var want uint32
			if how == api.JudgeYes {
				want = 1
			}
			comesTo(t, g, l, link, way, b, want)
		}
	}
}

// says holds the runs of a filter's graph, both ways, to a value.
func says(t *testing.T, l []api.Node, link api.Link, b []byte, want uint32) {
	t.Helper()
	g := lowered(t, l, link)
	for _, way := range ways() {
		comesTo(t, g, l, link, way, b, want)
	}
}

func TestExamples(t *testing.T) {
	for _, x := range []struct {
		s    string
		link api.Link
		want uint32
	}{
		{"ip", plain(), 1}, {"not tcp", plain(), 1}, {"port 54", api.Link{ACFC: true, PFC: true, MP: api.MultiLong}, 1}, {"outbound", plain(), 0},
		{"ip[99] = 0 or ip", plain(), 0}, {"not ip[99] = 0", plain(), 0}, {"len = 28", plain(), 1},
	} {
		l := source(t, x.s)
		comesTo(t, lowered(t, l, x.link), l, x.link, api.WayIn, f(), x.want)
	}
}

// holds tells the value of a truth.
func holds(truth bool) uint32 {
	if truth {
		return 1
	}
	return 0
}

// What is said of the chapter's frame, told without asking mean for it.
func TestSaid(t *testing.T) {
	for s, want := range map[string]uint32{
		"ip": 1, "udp": 1, "tcp": 0, "ip6": 0, "icmp": 0, "icmp6": 0, "lcp": 0, "mp": 0, "inbound or outbound": 1, "inbound and outbound": 0, "proto 33": 1, "proto 87": 0, "ip proto 17": 1, "ip proto 6": 0, "ip6 proto 17": 0,
		"src host 1.2.3.4": 1, "dst host 1.2.3.4": 0, "host 5.6.7.8": 1, "dst net 5.6.0.0/16": 1, "net 5.7.0.0/16": 0, "net 5.4.0.0/14": 1, "host 9.9.9.9": 0, "host ::1": 0, "net ::/0": 0, "net 0.0.0.0/0": 1,
		"port 54": 1, "src port 54": 0, "src port 53": 1, "tcp port 54": 0, "udp port 53": 1, "portrange 55-60": 0, "portrange 50-53": 1, "dst portrange 54-54": 1,
		"udp[0:2] = 53": 1, "ip[9] = 17": 1, "ppp[3] = 0x21": 1, "ip[ip[0] & 15 - 5] = 0x45": 1, "ppp[0:4] = 0xff030021": 1, "ip[12:4] = 0x01020304": 1,
		"tcp[0] = 0": 0, "not tcp[0] = 0": 1, "tcp[0] = ip[99]": 0, "not tcp[0] = ip[99]": 1, "not ip[99] = tcp[0]": 1, "not tcp[0] / (len - 28) = 1": 1,
		"udp or ip[99] = 0": 1, "ip[99] = 0 or udp": 0, "udp and ip[99] = 0": 0, "tcp and ip[99] = 0": 0, "not (tcp and ip[99] = 0)": 1, "not (udp and ip[99] = 0)": 0, "not not ip[99] = 0": 0, "not (ip[99] = 0 and tcp)": 0,
		"len / (ip[1]) = 0": 0, "not len / (ip[1]) = 0": 0, "0 * ip[99] = 0": 0, "len % (len - 28) = 0 or ip": 0, "len >> 32 = 0": 1, "len << len << 5 = 0": 1,
	} {
		says(t, source(t, s), plain(), f(), want)
	}
	for b, want := range map[string]uint32{"": 0, "ff": 0, "ff 03": 0, "ff 03 c0": 0, "ff 03 c0 21": 1, "ff 03 00 21 45": 0, "00 21": 0, "ff 03 21": 0, "ff 03 c0 20": 0, "ff 04 c0 21": 0} {
		says(t, source(t, "not ip"), plain(), fromHex(b), want)
		says(t, source(t, "1 = 1"), plain(), fromHex(b), want)
		says(t, source(t, "2 = 1"), plain(), fromHex(b), 0)
	}
}
