package mean_test

import (
	"encoding/hex"
	"fmt"
	"regexp"
	"slices"
	"strings"
	"testing"

	"riddle/api"
	"riddle/mean"
	"riddle/parse"
)

const (
	no    = api.JudgeNo
	yes   = api.JudgeYes
	fault = api.JudgeFault
)

func number(n uint32) api.Node       { return api.Node{Kind: api.NodeNumber, N: n} }
func word(of int) api.Node           { return api.Node{Kind: api.NodeWord, Of: of} }
func load(of int, size int) api.Node { return api.Node{Kind: api.NodeLoad, Of: of, Size: size} }
func arith(op int) api.Node          { return api.Node{Kind: api.NodeArith, Op: op} }
func rel(op int) api.Node            { return api.Node{Kind: api.NodeRel, Op: op} }
func kind(k int) api.Node            { return api.Node{Kind: k} }
func goes(side int) api.Node         { return api.Node{Kind: api.NodeWay, Side: side} }
func proto(n uint32) api.Node        { return api.Node{Kind: api.NodeProto, N: n} }
func next(of int, n uint32) api.Node { return api.Node{Kind: api.NodeNext, Of: of, N: n} }
func list(l ...api.Node) []api.Node  { return l }

func port(of, side int, n, m uint32) api.Node {
	return api.Node{Kind: api.NodePort, Of: of, Side: side, N: n, M: m}
}

func host(of, side int, address ...byte) api.Node {
	node := api.Node{Kind: api.NodeHost, Of: of, Side: side}
	copy(node.Addr[:], address)
	return node
}

func net(of, side, bits int, address ...byte) api.Node {
	node := host(of, side, address...)
	node.Kind, node.Bits = api.NodeNet, bits
	return node
}

func not(l []api.Node) []api.Node    { return append(slices.Clone(l), kind(api.NodeNot)) }
func and(a, b []api.Node) []api.Node { return append(slices.Concat(a, b), kind(api.NodeAnd)) }
func or(a, b []api.Node) []api.Node  { return append(slices.Concat(a, b), kind(api.NodeOr)) }
func nots(n int) []api.Node          { return slices.Repeat(list(kind(api.NodeNot)), n) }
func minuses(n int) []api.Node       { return slices.Repeat(list(kind(api.NodeMinus)), n) }
func ip() api.Node                   { return word(api.OfIP) }
func equals(l []api.Node) []api.Node { return append(slices.Clone(l), number(0), rel(api.OpEq)) }
func judgedAs(how int) string        { return []string{"no", "yes", "fault"}[how] }
func ways() []int                    { return []int{api.WayIn, api.WayOut} }
func sides() []int                   { return []int{api.SideAny, api.SideSrc, api.SideDst} }
func sizes() []int                   { return []int{1, 2, 4} }
func holds(truth bool) int           { return map[bool]int{false: no, true: yes}[truth] }
func behind(b []byte, n int) []byte  { return append(slices.Clone(b), make([]byte, n)...) }
func joined(parts ...[]byte) []byte  { return slices.Concat(parts...) }
func plain() api.Link                { return api.Link{} }

// fromHex tells the bytes of digits, blanks between them left aside.
func fromHex(s string) []byte {
	b, err := hex.DecodeString(strings.ReplaceAll(s, " ", ""))
	if err != nil {
		panic(err)
	}
	return b
}

// f is the frame of the chapter's examples.
func f() []byte {
	return fromHex("ff 03 00 21 45 00 00 18 00 00 00 00 40 11 00 00 01 02 03 04 05 06 07 08 00 35 00 36")
}

// source tells the tree of a source.
func source(t *testing.T, s string) []api.Node {
	t.Helper()
	l, _, place, e := parse.Parse(s)
	if e != api.OK {
		t.Fatalf("%q: %d, %d", s, place, e)
	}
	return l
}

// told tells a list in few words: of each node what is not zero.
func told(l []api.Node) string {
	var out []string
	for _, n := range l[:min(len(l), 40)] {
		out = append(out, regexp.MustCompile(`(\w+:0|Addr:\[0( 0)*\]) ?`).ReplaceAllString(fmt.Sprintf("%+v", n), ""))
	}
	return fmt.Sprintf("%.400s", strings.Join(out, " "))
}

// says holds Judge and Match of a filter to what is wanted.
func says(t *testing.T, l []api.Node, link api.Link, way int, b []byte, want int) {
	t.Helper()
	if how, e := mean.Judge(l, link, way, b); how != want || e != api.OK {
		t.Errorf("P14.1: %s, %+v, way %d, %.120x: %d, %d; want %s", told(l), link, way, b, how, e, judgedAs(want))
	}
	if match, e := mean.Match(l, link, way, b); match != (want == yes) || e != api.OK {
		t.Errorf("P14.2: %s, %+v, way %d, %.120x: %v, %d; want %s", told(l), link, way, b, match, e, judgedAs(want))
	}
}

// saysBothWays holds a filter to what is wanted, whichever way the frame goes.
func saysBothWays(t *testing.T, l []api.Node, link api.Link, b []byte, want int) {
	t.Helper()
	for _, way := range ways() {
		says(t, l, link, way, b, want)
	}
}

// comesTo holds Value of a number to what is wanted, whichever way the frame goes.
func comesTo(t *testing.T, l []api.Node, link api.Link, b []byte, value uint32, how int) {
	t.Helper()
	for _, way := range ways() {
		if v, h, e := mean.Value(l, link, way, b); v != value || h != how || e != api.OK {
			t.Errorf("P14.3: %s, %+v, way %d, %.120x: %d, %d, %d; want %d, %s", told(l), link, way, b, v, h, e, value, judgedAs(how))
		}
	}
}

func TestExamples(t *testing.T) {
	for s, want := range map[string]int{
		"ip": yes, "udp": yes, "tcp": no, "inbound": yes, "proto 33": yes, "ip proto 17": yes,
		"src host 1.2.3.4": yes, "dst net 5.6.0.0/16": yes, "host 9.9.9.9": no, "port 54": yes, "src port 54": no, "tcp port 54": no,
		"udp[0:2] = 53": yes, "ip[9] = 17": yes, "ppp[3] = 0x21": yes, "len = 28": yes, "ip[ip[0] & 15 - 5] = 0x45": yes,
		"tcp[0] = 0": no, "not tcp[0] = 0": yes, "tcp[0] = ip[99]": no,
		"ip[99] = 0": fault, "not ip[99] = 0": fault, "udp or ip[99] = 0": yes, "ip[99] = 0 or udp": fault, "len / (ip[1]) = 0": fault, "0 * ip[99] = 0": fault,
	} {
		says(t, source(t, s), plain(), api.WayIn, f(), want)
	}
	for frame, want := range map[string]int{"ff 03 00 21 45": fault, "00 21": fault, "ff 03 c0 21": yes} {
		says(t, source(t, "not ip"), plain(), api.WayIn, fromHex(frame), want)
	}
}

// links tells all links that may be.
func links() []api.Link {
	var out []api.Link
	for _, acfc := range []bool{false, true} {
		for _, pfc := range []bool{false, true} {
			for mp := range 3 {
				out = append(out, api.Link{ACFC: acfc, PFC: pfc, MP: mp})
			}
		}
	}
	return out
}

// laid is what stands ahead of a load on a link.
type laid struct {
	link  api.Link
	ahead []byte
	piece bool
}

// fields tells the fields that say a protocol on a link.
func fields(link api.Link, proto uint32) [][]byte {
	out := [][]byte{{byte(proto >> 8), byte(proto)}}
	if link.PFC && proto < 256 {
		out = append(out, []byte{byte(proto)})
	}
	return out
}

// layings tells all that may stand ahead of a load of a protocol, on every link: with and without address and control, in a piece that begins and in none.
func layings(proto uint32) []laid {
	var out []laid
	for _, link := range links() {
		addresses := [][]byte{{0xff, 3}}
		if link.ACFC {
			addresses = append(addresses, nil)
		}
		for _, address := range addresses {
			for _, inner := range fields(link, proto) {
				out = append(out, laid{link, joined(address, inner), false})
				for _, field := range fields(link, api.ProtoMulti) {
					header := [][]byte{nil, {0x80, 7}, {0xc0, 0, 1, 2}}[link.MP]
					if len(header) > 0 {
						out = append(out, laid{link, joined(address, field, header, inner), true})
					}
				}
			}
		}
	}
	return out
}

// headerIP tells a header of IP of so many words, with that fragment offset and next header; its addresses are 1.2.3.4 and 5.6.7.8.
func headerIP(words, offset, next int) []byte {
	b := make([]byte, 4*words)
	b[0], b[6], b[7], b[9] = byte(0x40+words), byte(0x40|offset>>8), byte(offset), byte(next)
	copy(b[12:], []byte{1, 2, 3, 4, 5, 6, 7, 8})
	return b
}

// headerIP6 tells a header of IP6 with that next header; its addresses are 102:304:506:708:90a:b0c:d0e:f10 and 1112:1314:1516:1718:191a:1b1c:1d1e:1f20.
func headerIP6(next int) []byte {
	b := make([]byte, 40)
	b[0], b[6] = 0x60, byte(next)
	for i := range 32 {
		b[8+i] = byte(i + 1)
	}
	return b
}

// numbers tells the protocols of PPP of which nodes speak.
func numbers() map[int]uint32 {
	return map[int]uint32{
		api.OfIP: 0x21, api.OfIP6: 0x57, api.OfLCP: 0xc021, api.OfPAP: 0xc023, api.OfCHAP: 0xc223, api.OfIPCP: 0x8021, api.OfIP6CP: 0x8057,
	}
}
