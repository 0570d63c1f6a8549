package show_test

import (
	"fmt"
	"regexp"
	"slices"
	"strings"
	"testing"

	"riddle/api"
	"riddle/parse"
	"riddle/show"
)

func number(n uint32) api.Node       { return api.Node{Kind: api.NodeNumber, N: n} }
func word(of int) api.Node           { return api.Node{Kind: api.NodeWord, Of: of} }
func load(of int, size int) api.Node { return api.Node{Kind: api.NodeLoad, Of: of, Size: size} }
func arith(op int) api.Node          { return api.Node{Kind: api.NodeArith, Op: op} }
func rel(op int) api.Node            { return api.Node{Kind: api.NodeRel, Op: op} }
func kind(k int) api.Node            { return api.Node{Kind: k} }
func way(side int) api.Node          { return api.Node{Kind: api.NodeWay, Side: side} }
func proto(n uint32) api.Node        { return api.Node{Kind: api.NodeProto, N: n} }
func next(of int, n uint32) api.Node { return api.Node{Kind: api.NodeNext, Of: of, N: n} }
func list(l ...api.Node) []api.Node  { return l }

func port(of, side int, n, m uint32) api.Node {
	return api.Node{Kind: api.NodePort, Of: of, Side: side, N: n, M: m}
}

func host(of, side int, address ...byte) api.Node {
	node := api.Node{Kind: api.NodeHost, Of: of, Side: side}
	copy(node.Addr[:], address)
	return node
}

func net(of, side, bits int, address ...byte) api.Node {
	node := host(of, side, address...)
	node.Kind, node.Bits = api.NodeNet, bits
	return node
}

func ip() api.Node { return word(api.OfIP) }

// source tells the tree of a source.
func source(t *testing.T, s string) []api.Node {
	t.Helper()
	l, _, place, e := parse.Parse(s)
	if e != api.OK {
		t.Fatalf("%q: %d, %d", s, place, e)
	}
	return l
}

// told tells a list in few words: of each node what is not zero.
func told(l []api.Node) string {
	var out []string
	for _, n := range l[:min(len(l), 40)] {
		out = append(out, regexp.MustCompile(`(\w+:0|Addr:\[0( 0)*\]) ?`).ReplaceAllString(fmt.Sprintf("%+v", n), ""))
	}
	return fmt.Sprintf("%.400s", strings.Join(out, " "))
}

// one holds one of the calls to its text, and that to be read as the list.
func one(t *testing.T, call func([]api.Node) (string, api.Errno), what string, l []api.Node, want string) {
	t.Helper()
	got, e := call(l)
	if e != api.OK || got != want {
		t.Errorf("P13.1: %s of %s: %.300q, %d; want %.300q", what, told(l), got, e, want)
		return
	}
	back, _, place, e := parse.Parse(got)
	if e != api.OK || !slices.Equal(back, l) {
		t.Errorf("P13.2: %s of %s: %.300q is read as %s, %d, %d", what, told(l), got, told(back), place, e)
	}
}

// shows holds a filter to its two texts.
func shows(t *testing.T, l []api.Node, short, full string) {
	t.Helper()
	one(t, show.Show, "Show", l, short)
	one(t, show.Full, "Full", l, full)
}

// both holds a filter to a text that is that of both calls.
func both(t *testing.T, l []api.Node, text string) {
	t.Helper()
	shows(t, l, text, text)
}

// oneRefuses holds one of the calls to an error, and to nothing beside it.
func oneRefuses(t *testing.T, call func([]api.Node) (string, api.Errno), what string, l []api.Node, want api.Errno) {
	t.Helper()
	if s, e := call(l); e != want || s != "" {
		t.Errorf("P13.1: %s of %s: %.300q, %d; want %d", what, told(l), s, e, want)
	}
}

// refuses holds both calls to an error.
func refuses(t *testing.T, l []api.Node, want api.Errno) {
	t.Helper()
	oneRefuses(t, show.Show, "Show", l, want)
	oneRefuses(t, show.Full, "Full", l, want)
}

func TestExamples(t *testing.T) {
	for _, x := range [][3]string{
		{"(ip)&&!(udp||tcp)", "ip and not (udp or tcp)", "ip and (not (udp or tcp))"},
		{"1-(2-3)=0x10", "1 - (2 - 3) = 16", "(1 - (2 - 3)) = 16"},
		{"ip[(1+2):2] != -len", "ip[1 + 2:2] != -len", "ip[1 + 2:2] != (-len)"},
		{"portrange 5-5 or src net 10.0.0.0/8", "port 5 or src net 10.0.0.0/8", "port 5 or src net 10.0.0.0/8"},
		{"not not ip", "not not ip", "not (not ip)"},
		{"(ip or udp) or tcp", "ip or udp or tcp", "(ip or udp) or tcp"},
		{"ip or (udp or tcp)", "ip or (udp or tcp)", "ip or (udp or tcp)"},
	} {
		shows(t, source(t, x[0]), x[1], x[2])
	}
}

func TestNumbers(t *testing.T) {
	for n, text := range map[uint32]string{0: "0", 1: "1", 9: "9", 10: "10", 255: "255", 65535: "65535", 65536: "65536", 1 << 31: "2147483648", 1<<32 - 1: "4294967295"} {
		both(t, list(number(n), kind(api.NodeLen), rel(api.OpEq)), text+" = len")
		both(t, list(kind(api.NodeLen), number(n), rel(api.OpGt)), "len > "+text)
		both(t, list(number(n), load(api.OfIP, 4), number(n), rel(api.OpEq)), "ip["+text+":4] = "+text)
		shows(t, list(number(n), kind(api.NodeMinus), number(n), rel(api.OpNe)), "-"+text+" != "+text, "(-"+text+") != "+text)
	}
	for n, text := range map[uint32]string{0: "0", 33: "33", 255: "255", 256: "256", 65535: "65535"} {
		both(t, list(proto(n)), "proto "+text)
	}
	for n, text := range map[uint32]string{0: "0", 1: "1", 6: "6", 255: "255"} {
		both(t, list(next(api.OfIP, n)), "ip proto "+text)
		both(t, list(next(api.OfIP6, n)), "ip6 proto "+text)
	}
}

// names tells all that nodes speak of, by their names.
func names() map[string]int {
	return map[string]int{
		"ppp": api.OfPPP, "ip": api.OfIP, "ip6": api.OfIP6, "tcp": api.OfTCP, "udp": api.OfUDP, "icmp": api.OfICMP, "icmp6": api.OfICMP6,
		"lcp": api.OfLCP, "pap": api.OfPAP, "chap": api.OfCHAP, "ipcp": api.OfIPCP, "ip6cp": api.OfIP6CP, "mp": api.OfMP,
	}
}

func TestWordsAndWays(t *testing.T) {
	for name, of := range names() {
		if of != api.OfPPP {
			both(t, list(word(of)), name)
		}
	}
	both(t, list(way(api.SideSrc)), "inbound")
	both(t, list(way(api.SideDst)), "outbound")
	both(t, list(kind(api.NodeLen), kind(api.NodeLen), rel(api.OpEq)), "len = len")
}

func TestLoads(t *testing.T) {
	sizes := map[int]string{1: "", 2: ":2", 4: ":4"}
	indexes := map[string][]api.Node{
		"0": list(number(0)), "4294967295": list(number(1<<32 - 1)), "len": list(kind(api.NodeLen)), "-1": list(number(1), kind(api.NodeMinus)), "--len": list(kind(api.NodeLen), kind(api.NodeMinus), kind(api.NodeMinus)),
		"chap[9]": list(number(9), load(api.OfCHAP, 1)), "chap[9:2]": list(number(9), load(api.OfCHAP, 2)),
	}
	for _, o := range operators() {
		if o.row > rowRel {
			indexes["1 "+o.text+" 2"] = list(number(1), number(2), o.node)
			indexes["len "+o.text+" ip[3:4]"] = list(kind(api.NodeLen), number(3), load(api.OfIP, 4), o.node)
		}
	}
	for name, of := range names() {
		for bytes, size := range sizes {
			for index, inside := range indexes {
				if of == api.OfMP || strings.HasPrefix(index, "--") {
					continue
				}
				both(t, append(slices.Clone(inside), load(of, bytes), number(7), rel(api.OpLt)), name+"["+index+size+"] < 7")
				both(t, append(append(list(number(7)), inside...), load(of, bytes), rel(api.OpGe)), "7 >= "+name+"["+index+size+"]")
			}
		}
	}
	shows(t, append(slices.Clone(indexes["--len"]), load(api.OfTCP, 2), number(7), rel(api.OpLt)), "tcp[--len:2] < 7", "tcp[-(-len):2] < 7")
	shows(t, source(t, "ip[1+2*3]=1"), "ip[1 + 2 * 3] = 1", "ip[1 + (2 * 3)] = 1")
	shows(t, source(t, "ip[(1+2)*3:4]=-ip[-(1|2)]"), "ip[(1 + 2) * 3:4] = -ip[-(1 | 2)]", "ip[(1 + 2) * 3:4] = (-ip[-(1 | 2)])")
	shows(t, source(t, "ip[udp[1+(ppp[0])]+2:2]+1=1"), "ip[udp[1 + ppp[0]] + 2:2] + 1 = 1", "(ip[udp[1 + ppp[0]] + 2:2] + 1) = 1")
}

// sided tells the texts of the sides.
func sided() map[int]string {
	return map[int]string{api.SideAny: "", api.SideSrc: "src ", api.SideDst: "dst "}
}

func TestHostsAndNets(t *testing.T) {
	for side, ahead := range sided() {
		for text, address := range map[string][]byte{
			"0.0.0.0": nil, "1.2.3.4": {1, 2, 3, 4}, "255.255.255.255": {255, 255, 255, 255}, "10.0.0.0": {10}, "0.0.0.9": {0, 0, 0, 9},
		} {
			both(t, list(host(api.OfIP, side, address...)), ahead+"host "+text)
			both(t, list(net(api.OfIP, side, 32, address...)), ahead+"net "+text+"/32")
		}
		for text, address := range map[string][]byte{
			"::": nil, "::1": {15: 1}, "1::": {1: 1}, "102:304::": {1, 2, 3, 4}, "fe80::1": {0xfe, 0x80, 15: 1}, "1:0:2::3": {1: 1, 5: 2, 15: 3}, "::ffff:0:0:0": {8: 255, 9: 255},
			"ffff:ffff:ffff:ffff:ffff:ffff:ffff:ffff": slices.Repeat([]byte{255}, 16), "1:2:3:4:5:6:7:8": {0, 1, 0, 2, 0, 3, 0, 4, 0, 5, 0, 6, 0, 7, 0, 8},
		} {
			both(t, list(host(api.OfIP6, side, address...)), ahead+"host "+text)
			both(t, list(net(api.OfIP6, side, 128, address...)), ahead+"net "+text+"/128")
		}
		both(t, list(net(api.OfIP, side, 0)), ahead+"net 0.0.0.0/0")
		both(t, list(net(api.OfIP, side, 8)), ahead+"net 0.0.0.0/8")
		both(t, list(net(api.OfIP, side, 8, 10)), ahead+"net 10.0.0.0/8")
		both(t, list(net(api.OfIP, side, 9, 10, 128)), ahead+"net 10.128.0.0/9")
		both(t, list(net(api.OfIP6, side, 0)), ahead+"net ::/0")
		both(t, list(net(api.OfIP6, side, 10, 0xfe, 0x80)), ahead+"net fe80::/10")
		both(t, list(net(api.OfIP6, side, 32)), ahead+"net ::/32")
	}
}

func TestPorts(t *testing.T) {
	for of, carrier := range map[int]string{api.OfAny: "", api.OfTCP: "tcp ", api.OfUDP: "udp "} {
		for side, ahead := range sided() {
			for n, text := range map[uint32]string{0: "0", 1: "1", 53: "53", 65535: "65535"} {
				both(t, list(port(of, side, n, n)), carrier+ahead+"port "+text)
			}
			both(t, list(port(of, side, 0, 1)), carrier+ahead+"portrange 0-1")
			both(t, list(port(of, side, 5, 9)), carrier+ahead+"portrange 5-9")
			both(t, list(port(of, side, 0, 65535)), carrier+ahead+"portrange 0-65535")
			both(t, list(port(of, side, 65534, 65535)), carrier+ahead+"portrange 65534-65535")
		}
	}
}

func TestNoFilters(t *testing.T) {
	one := number(1)
	for _, l := range [][]api.Node{
		nil, {}, list(ip(), ip()), list(one, one), list(kind(api.NodeAnd)), list(kind(api.NodeNot)), list(ip(), kind(api.NodeAnd)), list(one, rel(api.OpEq)), list(load(api.OfIP, 1)),
		list(kind(0)), list(kind(-1)), list(kind(17)), list(ip(), kind(17)), list(ip(), ip(), kind(99)),
		list(api.Node{Kind: api.NodeWord, Of: api.OfIP, N: 1}), list(api.Node{Kind: api.NodeWay, Side: 1, Of: 1}), list(ip(), api.Node{Kind: api.NodeNot, Op: 1}),
		list(api.Node{Kind: api.NodeProto, N: 6, Of: api.OfIP}), list(api.Node{Kind: api.NodePort, Size: 1}),
		list(word(api.OfPPP)), list(word(api.OfAny)), list(word(14)), list(way(api.SideAny)), list(way(3)), list(next(api.OfTCP, 1)), list(next(api.OfAny, 1)),
		list(one, one, rel(0)), list(one, one, rel(7)), list(one, one, arith(0), one, rel(1)), list(one, one, arith(11), one, rel(1)), list(one, load(api.OfMP, 1), one, rel(1)), list(one, load(api.OfAny, 1), one, rel(1)),
		list(host(api.OfIP, 0, 1, 2, 3, 4, 5)), list(host(api.OfTCP, 0)), list(host(api.OfIP, 3)), list(host(api.OfIP, -1)), list(net(api.OfIP, 0, 32, []byte{15: 1}...)), list(port(api.OfIP, 0, 1, 1)), list(port(api.OfTCP, 3, 1, 1)),
		// ErrTypeNumber, ErrTypeBool
		list(ip(), one, rel(1)), list(one, ip(), rel(1)), list(ip(), kind(api.NodeMinus), one, rel(1)), list(ip(), load(api.OfIP, 1), one, rel(1)), list(one, ip(), arith(1), one, rel(1)),
		list(one, kind(api.NodeNot)), list(ip(), one, kind(api.NodeAnd)), list(one, ip(), kind(api.NodeOr)), list(one), list(kind(api.NodeLen)), list(one, one, arith(api.OpAdd)), list(one, load(api.OfIP, 1)), list(one, kind(api.NodeMinus)),
		// ErrTypeZero, ErrTypeRange, ErrTypeHost
		list(one, number(0), arith(api.OpDiv), one, rel(1)), list(one, number(0), arith(api.OpMod), one, rel(1)), list(one, one, one, arith(api.OpSub), arith(api.OpDiv), one, rel(1)),
		list(one, load(api.OfIP, 0), one, rel(1)), list(one, load(api.OfIP, 3), one, rel(1)), list(one, load(api.OfIP, 8), one, rel(1)), list(proto(65536)), list(next(api.OfIP, 256)),
		list(port(0, 0, 0, 65536)), list(port(0, 0, 65536, 65536)), list(port(0, 0, 9, 1)), list(net(api.OfIP, 0, 33)), list(net(api.OfIP, 0, -1)), list(net(api.OfIP6, 0, 129)),
		list(net(api.OfIP, 0, 8, 10, 1)), list(net(api.OfIP, 0, 0, 1)), list(net(api.OfIP6, 0, 127, []byte{15: 1}...)),
	} {
		refuses(t, l, api.ErrShowTree)
		refuses(t, append(slices.Clone(l), ip(), kind(api.NodeAnd)), api.ErrShowTree)
	}
}

// A filter of the greatest weight has its text; with more weight it is none, and that counts ahead of how deep its text would be.
func TestWeight(t *testing.T) {
	many := func(n int) []api.Node { return append(list(ip()), slices.Repeat(list(ip(), kind(api.NodeOr)), n)...) }
	l := many(229)
	text := "ip" + strings.Repeat(" or ip", 229)
	full := strings.Repeat("(", 228) + "ip" + strings.Repeat(" or ip)", 228) + " or ip"
	one(t, show.Show, "Show", l, text)
	oneRefuses(t, show.Full, "Full", l, api.ErrShowDeep)
	one(t, show.Show, "Show", append(slices.Clone(l), slices.Repeat(list(kind(api.NodeNot)), 11)...), strings.Repeat("not ", 11)+"("+text+")")
	refuses(t, append(slices.Clone(l), slices.Repeat(list(kind(api.NodeNot)), 12)...), api.ErrShowTree)
	refuses(t, many(230), api.ErrShowTree)
	if _, _, place, e := parse.Parse(full); e != api.ErrParseDeep || place != api.MaxNest {
		t.Errorf("%d, %d", place, e)
	}
	nots := append(list(ip()), slices.Repeat(list(kind(api.NodeNot)), 2988)...)
	refuses(t, nots, api.ErrShowDeep)
	refuses(t, append(nots, kind(api.NodeNot)), api.ErrShowTree)
	refuses(t, append(list(number(1)), slices.Repeat(list(kind(api.NodeMinus)), 1490)...), api.ErrShowTree)
	refuses(t, append(list(number(1)), slices.Repeat(list(kind(api.NodeNot)), 300)...), api.ErrShowTree)
	refuses(t, append(list(ip()), slices.Repeat(list(kind(api.NodeNot)), 1<<16)...), api.ErrShowTree)
	refuses(t, slices.Repeat(list(ip()), 1<<20), api.ErrShowTree)
}
