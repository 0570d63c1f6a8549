package parse_test

import (
	"fmt"
	"regexp"
	"slices"
	"strconv"
	"strings"
	"testing"

	"riddle/api"
	"riddle/parse"
)

func number(n uint32) api.Node          { return api.Node{Kind: api.NodeNumber, N: n} }
func word(of int) api.Node              { return api.Node{Kind: api.NodeWord, Of: of} }
func load(of int, size int) api.Node    { return api.Node{Kind: api.NodeLoad, Of: of, Size: size} }
func arith(op int) api.Node             { return api.Node{Kind: api.NodeArith, Op: op} }
func rel(op int) api.Node               { return api.Node{Kind: api.NodeRel, Op: op} }
func kind(k int) api.Node               { return api.Node{Kind: k} }
func way(side int) api.Node             { return api.Node{Kind: api.NodeWay, Side: side} }
func proto(n uint32) api.Node           { return api.Node{Kind: api.NodeProto, N: n} }
func next(of int, n uint32) api.Node    { return api.Node{Kind: api.NodeNext, Of: of, N: n} }
func nodes(list ...api.Node) []api.Node { return list }
func places(list ...int) []int          { return list }

func port(of, side int, n, m uint32) api.Node {
	return api.Node{Kind: api.NodePort, Of: of, Side: side, N: n, M: m}
}

func host(of, side int, address ...byte) api.Node {
	node := api.Node{Kind: api.NodeHost, Of: of, Side: side}
	copy(node.Addr[:], address)
	return node
}

func net(of, side, bits int, address ...byte) api.Node {
	node := host(of, side, address...)
	node.Kind, node.Bits = api.NodeNet, bits
	return node
}

// names are all that may stand ahead of a `[`, or as a word, by what they speak of.
func names() map[string]int {
	return map[string]int{
		"ppp": api.OfPPP, "ip": api.OfIP, "ip6": api.OfIP6, "tcp": api.OfTCP, "udp": api.OfUDP, "icmp": api.OfICMP, "icmp6": api.OfICMP6,
		"lcp": api.OfLCP, "pap": api.OfPAP, "chap": api.OfCHAP, "ipcp": api.OfIPCP, "ip6cp": api.OfIP6CP, "mp": api.OfMP,
	}
}

// told tells a tree in few words: of each node what is not zero, and its place.
func told(tree []api.Node, at []int) string {
	var out []string
	for i, n := range tree {
		text := fmt.Sprintf("%+v", n)
		text = regexp.MustCompile(`(\w+:0|Addr:\[0( 0)*\]) ?`).ReplaceAllString(text, "")
		if i < len(at) {
			text += "@" + strconv.Itoa(at[i])
		}
		out = append(out, text)
	}
	return fmt.Sprintf("%.400s", strings.Join(out, " "))
}

// gives holds a source to its tree and the nodes' places.
func gives(t *testing.T, s string, want []api.Node, at []int) {
	t.Helper()
	tree, got, place, e := parse.Parse(s)
	if e != api.OK || place != 0 || !slices.Equal(tree, want) || !slices.Equal(got, at) {
		t.Errorf("P11.1: %.80q: %s, %d, %d; want %s", s, told(tree, got), place, e, told(want, at))
	}
}

// refuses holds a source to its error, and to nothing beside that but the place.
func refuses(t *testing.T, s string, place int, e api.Errno) {
	t.Helper()
	tree, at, got, err := parse.Parse(s)
	if err != e || got != place || len(tree) != 0 || len(at) != 0 {
		t.Errorf("P11.1: %.80q: %d nodes, %d places, %d, %d; want %d, %d", s, len(tree), len(at), got, err, place, e)
	}
}

func TestExamples(t *testing.T) {
	gives(t, "ip and not udp", nodes(word(api.OfIP), word(api.OfUDP), kind(api.NodeNot), kind(api.NodeAnd)), places(0, 11, 7, 3))
	gives(t, "ip[2:2]+1 > len", nodes(number(2), load(api.OfIP, 2), number(1), arith(api.OpAdd), kind(api.NodeLen), rel(api.OpGt)), places(3, 0, 8, 7, 12, 10))
	gives(t, "tcp src portrange 1-9 or dst host 1.2.3.4", nodes(port(api.OfTCP, api.SideSrc, 1, 9), host(api.OfIP, api.SideDst, 1, 2, 3, 4), kind(api.NodeOr)), places(0, 25, 22))
	gives(t, "1-2-3=4", nodes(number(1), number(2), arith(api.OpSub), number(3), arith(api.OpSub), number(4), rel(api.OpEq)), places(0, 2, 1, 4, 3, 6, 5))
	gives(t, "- - 1 = 2", nodes(number(1), kind(api.NodeMinus), kind(api.NodeMinus), number(2), rel(api.OpEq)), places(4, 2, 0, 8, 6))
	gives(t, strings.Repeat("(", 200)+"ip"+strings.Repeat(")", 200), nodes(word(api.OfIP)), places(200))
	refuses(t, "", 0, api.ErrParseEnd)
	refuses(t, "ip and", 6, api.ErrParseEnd)
	refuses(t, "ip udp", 3, api.ErrParseToken)
	refuses(t, "ppp", 3, api.ErrParseEnd)
	refuses(t, "host 1.2.3", 5, api.ErrParseAddr)
	refuses(t, "host ip", 5, api.ErrParseToken)
	refuses(t, "1 < 2 < 3", 6, api.ErrParseToken)
	refuses(t, "mp[0]=1", 2, api.ErrParseToken)
	refuses(t, "tcp src host 1.2.3.4", 8, api.ErrParseToken)
	refuses(t, "foo", 0, api.ErrParseToken)
	refuses(t, "a$", 1, api.ErrLexByte)
	refuses(t, strings.Repeat("(", 201)+"ip"+strings.Repeat(")", 201), 200, api.ErrParseDeep)
}

func TestNumbers(t *testing.T) {
	for text, n := range map[string]uint32{"0": 0, "1": 1, "0x10": 16, "0x0": 0, "4294967295": 1<<32 - 1, "0xffffffff": 1<<32 - 1} {
		gives(t, text, nodes(number(n)), places(0))
		gives(t, " ( "+text+")", nodes(number(n)), places(3))
		gives(t, "proto "+text, nodes(proto(n)), places(0))
		gives(t, "ip proto "+text, nodes(next(api.OfIP, n)), places(0))
		gives(t, "ip6 proto "+text, nodes(next(api.OfIP6, n)), places(0))
		gives(t, "port "+text, nodes(port(api.OfAny, api.SideAny, n, n)), places(0))
		gives(t, "portrange 7-"+text, nodes(port(api.OfAny, api.SideAny, 7, n)), places(0))
		gives(t, "portrange "+text+"-7", nodes(port(api.OfAny, api.SideAny, n, 7)), places(0))
		gives(t, "net 1.2.3.4/"+text, nodes(net(api.OfIP, api.SideAny, int(n), 1, 2, 3, 4)), places(0))
		gives(t, "net ::1/"+text, nodes(net(api.OfIP6, api.SideAny, int(n), []byte{15: 1}...)), places(0))
		gives(t, "ppp["+text+":"+text+"]", nodes(number(n), load(api.OfPPP, int(n))), places(4, 0))
	}
}

func TestWords(t *testing.T) {
	gives(t, "len", nodes(kind(api.NodeLen)), places(0))
	gives(t, "inbound", nodes(way(api.SideSrc)), places(0))
	gives(t, "outbound", nodes(way(api.SideDst)), places(0))
	gives(t, "\tinbound or outbound", nodes(way(api.SideSrc), way(api.SideDst), kind(api.NodeOr)), places(1, 12, 9))
	for name, of := range names() {
		if of == api.OfPPP {
			refuses(t, name, len(name), api.ErrParseEnd)
			refuses(t, name+" and ip", len(name)+1, api.ErrParseToken)
			refuses(t, "("+name+")", 1+len(name), api.ErrParseToken)
			continue
		}
		gives(t, name, nodes(word(of)), places(0))
		gives(t, " ("+name+" )", nodes(word(of)), places(2))
		gives(t, name+"="+name, nodes(word(of), word(of), rel(api.OpEq)), places(0, 1+len(name), len(name)))
	}
}

func TestLoads(t *testing.T) {
	for name, of := range names() {
		end := len(name)
		if of == api.OfMP {
			refuses(t, name+"[0]", end, api.ErrParseToken)
			refuses(t, name+" [0:1]", end+1, api.ErrParseToken)
			continue
		}
		gives(t, name+"[7]", nodes(number(7), load(of, 1)), places(end+1, 0))
		gives(t, name+"[7:1]", nodes(number(7), load(of, 1)), places(end+1, 0))
		gives(t, name+"[7:2]", nodes(number(7), load(of, 2)), places(end+1, 0))
		gives(t, name+" [ 7 : 4 ]", nodes(number(7), load(of, 4)), places(end+3, 0))
		gives(t, name+"[7:0]", nodes(number(7), load(of, 0)), places(end+1, 0))
		gives(t, "not "+name+"[len:9]", nodes(kind(api.NodeLen), load(of, 9), kind(api.NodeNot)), places(5+end, 4, 0))
		gives(t, name+"["+name+"[0]:2]", nodes(number(0), load(of, 1), load(of, 2)), places(2*end+2, end+1, 0))
		refuses(t, name+"[", end+1, api.ErrParseEnd)
		refuses(t, name+"[]", end+1, api.ErrParseToken)
		refuses(t, name+"[:1]", end+1, api.ErrParseToken)
		refuses(t, name+"[1)", end+2, api.ErrParseToken)
		refuses(t, name+"[1:]", end+3, api.ErrParseToken)
		refuses(t, name+"[1:len]", end+3, api.ErrParseToken)
		refuses(t, name+"[1:(2)]", end+3, api.ErrParseToken)
		refuses(t, name+"[1:2", end+4, api.ErrParseEnd)
		refuses(t, name+"[1:2+3]", end+4, api.ErrParseToken)
		refuses(t, name+"[1:2 :3]", end+5, api.ErrParseToken)
		refuses(t, name+"[1][2]", end+3, api.ErrParseToken)
		refuses(t, name+"(1)", end, api.ErrParseToken)
	}

	// An index may be all that stands in brackets.
	gives(t, "ip[ip or not udp:2]", nodes(word(api.OfIP), word(api.OfUDP), kind(api.NodeNot), kind(api.NodeOr), load(api.OfIP, 2)), places(3, 13, 9, 6, 0))
	gives(t, "udp[1<2]", nodes(number(1), number(2), rel(api.OpLt), load(api.OfUDP, 1)), places(4, 6, 5, 0))
	refuses(t, "ip[0:1:2]", 3, api.ErrParseToken)
	refuses(t, "5[0]", 1, api.ErrParseToken)
	refuses(t, "(ip)[0]", 4, api.ErrParseToken)
	refuses(t, "len[0]", 3, api.ErrParseToken)
	refuses(t, "[0]", 0, api.ErrParseToken)
	refuses(t, "inbound[0]", 7, api.ErrParseToken)
}

func TestProtos(t *testing.T) {
	gives(t, "proto 33", nodes(proto(33)), places(0))
	gives(t, "not proto 65536", nodes(proto(65536), kind(api.NodeNot)), places(4, 0))
	gives(t, " ip proto 6", nodes(next(api.OfIP, 6)), places(1))
	gives(t, "(ip6\nproto\n58)", nodes(next(api.OfIP6, 58)), places(1))
	gives(t, "ip and proto 5", nodes(word(api.OfIP), proto(5), kind(api.NodeAnd)), places(0, 7, 3))
	gives(t, "proto 1 + 2", nodes(proto(1), number(2), arith(api.OpAdd)), places(0, 10, 8))
	for name, of := range names() {
		if of != api.OfIP && of != api.OfIP6 {
			refuses(t, name+" proto 5", len(name)+1, api.ErrParseToken)
		}
	}
	for _, s := range []string{"proto", "ip proto", "ip6 proto"} {
		refuses(t, s, len(s), api.ErrParseEnd)
		for _, wrong := range []string{"tcp", "len", "(5)", "-1", "1.2.3.4", "1.2.3", "::", "1:2:3", "proto 1", "=", "[0]"} {
			refuses(t, s+" "+wrong, len(s)+1, api.ErrParseToken)
		}
		refuses(t, s+" 1 2", len(s)+3, api.ErrParseToken)
	}
}

func sides() map[string]int {
	return map[string]int{"": api.SideAny, "src ": api.SideSrc, "dst ": api.SideDst}
}

func TestHostsAndNets(t *testing.T) {
	six := []byte{0xfe, 0x80, 15: 9}
	for text, side := range sides() {
		at := places(0)
		gives(t, text+"host 1.2.3.4", nodes(host(api.OfIP, side, 1, 2, 3, 4)), at)
		gives(t, text+"host 255.0.255.0", nodes(host(api.OfIP, side, 255, 0, 255)), at)
		gives(t, text+"host fe80::9", nodes(host(api.OfIP6, side, six...)), at)
		gives(t, text+"host ::", nodes(host(api.OfIP6, side)), at)
		gives(t, text+"host 1:2:3:4:5:6:7:8", nodes(host(api.OfIP6, side, 0, 1, 0, 2, 0, 3, 0, 4, 0, 5, 0, 6, 0, 7, 0, 8)), at)
		gives(t, text+"net 10.1.2.3/8", nodes(net(api.OfIP, side, 8, 10, 1, 2, 3)), at)
		gives(t, text+"net 10.0.0.0 / 0", nodes(net(api.OfIP, side, 0, 10)), at)
		gives(t, text+"net fe80::9/16", nodes(net(api.OfIP6, side, 16, six...)), at)
		gives(t, text+"net fe80::9 / 0x81", nodes(net(api.OfIP6, side, 129, six...)), at)
		gives(t, "ip or("+text+"net 0.0.0.0/0)", nodes(word(api.OfIP), net(api.OfIP, side, 0), kind(api.NodeOr)), places(0, 6, 3))
		gives(t, "!"+text+"host 0.0.0.0", nodes(host(api.OfIP, side), kind(api.NodeNot)), places(1, 0))
		for _, what := range []string{"host", "net"} {
			s := text + what
			refuses(t, s, len(s), api.ErrParseEnd)
			for _, wrong := range []string{"ip", "host", "5", "0x1", "(", "len", "-", "src", "/", "foo", ":1", "a:b"} {
				refuses(t, s+" "+wrong, len(s)+1, api.ErrParseToken)
			}
			for _, wrong := range []string{"1.2.3", "1.", "1.2.3.4.5", "1.2.3.256", "1.2.3.04", "1..2.3", "1::2::3", ":::", "12345::", "1:2:3", "1:2:3:4:5:6:7:8:9", "::1:"} {
				refuses(t, s+" "+wrong, len(s)+1, api.ErrParseAddr)
			}
		}
		s := text + "net 1.2.3.4"
		refuses(t, s, len(s), api.ErrParseEnd)
		refuses(t, s+" and ip", len(s)+1, api.ErrParseToken)
		refuses(t, s+" 8", len(s)+1, api.ErrParseToken)
		refuses(t, s+"/", len(s)+1, api.ErrParseEnd)
		for _, wrong := range []string{"ip", "255.0.0.0", "1.2", "::", "(8)", "-1", "/"} {
			refuses(t, s+"/"+wrong, len(s)+1, api.ErrParseToken)
		}
		refuses(t, text+"host 1.2.3.4 1.2.3.4", len(text)+13, api.ErrParseToken)
		gives(t, text+"host 1.2.3.4/8", nodes(host(api.OfIP, side, 1, 2, 3, 4), number(8), arith(api.OpDiv)), places(0, len(text)+13, len(text)+12))
	}
}

func TestPorts(t *testing.T) {
	for name, of := range map[string]int{"": api.OfAny, "tcp ": api.OfTCP, "udp ": api.OfUDP} {
		for text, side := range sides() {
			s := name + text
			gives(t, s+"port 53", nodes(port(of, side, 53, 53)), places(0))
			gives(t, "  "+s+"port 70000", nodes(port(of, side, 70000, 70000)), places(2))
			gives(t, s+"portrange 1-9", nodes(port(of, side, 1, 9)), places(0))
			gives(t, s+"portrange 9 - 1", nodes(port(of, side, 9, 1)), places(0))
			gives(t, s+"portrange 5-5", nodes(port(of, side, 5, 5)), places(0))
			gives(t, "not "+s+"port 1", nodes(port(of, side, 1, 1), kind(api.NodeNot)), places(4, 0))
			gives(t, s+"port 1-2", nodes(port(of, side, 1, 1), number(2), arith(api.OpSub)), places(0, len(s)+7, len(s)+6))
			gives(t, s+"portrange 1-2-3", nodes(port(of, side, 1, 2), number(3), arith(api.OpSub)), places(0, len(s)+14, len(s)+13))
			refuses(t, s+"port", len(s)+4, api.ErrParseEnd)
			refuses(t, s+"portrange", len(s)+9, api.ErrParseEnd)
			refuses(t, s+"portrange 1", len(s)+11, api.ErrParseEnd)
			refuses(t, s+"portrange 1-", len(s)+12, api.ErrParseEnd)
			refuses(t, s+"portrange 1 2", len(s)+12, api.ErrParseToken)
			refuses(t, s+"portrange 1:2", len(s)+11, api.ErrParseToken)
			refuses(t, s+"portrange 1--2", len(s)+12, api.ErrParseToken)
			refuses(t, s+"portrange 1-ip", len(s)+12, api.ErrParseToken)
			for _, wrong := range []string{"ip", "(1)", "-1", "1.2", "1.2.3.4", "::", "len", "port", "=", "foo"} {
				refuses(t, s+"port "+wrong, len(s)+5, api.ErrParseToken)
				refuses(t, s+"portrange "+wrong, len(s)+10, api.ErrParseToken)
			}
		}
	}
}

func TestWhatMayNotStandBehindASide(t *testing.T) {
	for _, side := range []string{"src", "dst"} {
		refuses(t, side, 3, api.ErrParseEnd)
		for _, wrong := range []string{"1.2.3.4", "1.2", "::1", "1:2:3", "5", "ip", "tcp port 5", "udp", "proto 5", "src host 1.2.3.4", "dst port 5", "and", "(host 1.2.3.4)", "not", "-", "len", "inbound", "[0]", "foo", "ppp[0]"} {
			refuses(t, side+" "+wrong, 4, api.ErrParseToken)
		}
		for _, name := range []string{"tcp", "udp"} {
			refuses(t, name+" "+side, 7, api.ErrParseEnd)
			for _, wrong := range []string{"host 1.2.3.4", "net 1.2.3.4/8", "src port 5", "dst port 5", "1.2.3.4", "1.2", "ip", "5", "and", "proto 6", "[0]", "("} {
				refuses(t, name+" "+side+" "+wrong, 8, api.ErrParseToken)
			}
		}
		for name, of := range names() {
			if of != api.OfTCP && of != api.OfUDP {
				refuses(t, name+" "+side+" port 5", len(name)+1, api.ErrParseToken)
			}
		}
	}
	for name, of := range names() {
		refuses(t, name+" host 1.2.3.4", len(name)+1, api.ErrParseToken)
		refuses(t, name+" net 1.2.3.4/8", len(name)+1, api.ErrParseToken)
		if of != api.OfTCP && of != api.OfUDP {
			refuses(t, name+" port 5", len(name)+1, api.ErrParseToken)
			refuses(t, name+" portrange 5-6", len(name)+1, api.ErrParseToken)
		}
	}
}
