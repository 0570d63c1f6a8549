package types_test

import (
	"fmt"
	"regexp"
	"slices"
	"strings"
	"testing"

	"riddle/api"
	"riddle/parse"
	"riddle/types"
)

func number(n uint32) api.Node       { return api.Node{Kind: api.NodeNumber, N: n} }
func word(of int) api.Node           { return api.Node{Kind: api.NodeWord, Of: of} }
func load(of int, size int) api.Node { return api.Node{Kind: api.NodeLoad, Of: of, Size: size} }
func arith(op int) api.Node          { return api.Node{Kind: api.NodeArith, Op: op} }
func rel(op int) api.Node            { return api.Node{Kind: api.NodeRel, Op: op} }
func kind(k int) api.Node            { return api.Node{Kind: k} }
func way(side int) api.Node          { return api.Node{Kind: api.NodeWay, Side: side} }
func proto(n uint32) api.Node        { return api.Node{Kind: api.NodeProto, N: n} }
func next(of int, n uint32) api.Node { return api.Node{Kind: api.NodeNext, Of: of, N: n} }
func list(l ...api.Node) []api.Node  { return l }

func port(of, side int, n, m uint32) api.Node {
	return api.Node{Kind: api.NodePort, Of: of, Side: side, N: n, M: m}
}

func host(of, side int, address ...byte) api.Node {
	node := api.Node{Kind: api.NodeHost, Of: of, Side: side}
	copy(node.Addr[:], address)
	return node
}

func net(of, side, bits int, address ...byte) api.Node {
	node := host(of, side, address...)
	node.Kind, node.Bits = api.NodeNet, bits
	return node
}

func ip() api.Node { return word(api.OfIP) }

// source tells the tree of a source.
func source(t *testing.T, s string) []api.Node {
	t.Helper()
	l, _, place, e := parse.Parse(s)
	if e != api.OK {
		t.Fatalf("%q: %d, %d", s, place, e)
	}
	return l
}

// told tells a list in few words: of each node what is not zero.
func told(l []api.Node) string {
	var out []string
	for _, n := range l[:min(len(l), 40)] {
		out = append(out, regexp.MustCompile(`(\w+:0|Addr:\[0( 0)*\]) ?`).ReplaceAllString(fmt.Sprintf("%+v", n), ""))
	}
	return fmt.Sprintf("%.400s", strings.Join(out, " "))
}

// answers holds a list to what Check tells of it.
func answers(t *testing.T, l []api.Node, place int, e api.Errno) {
	t.Helper()
	if got, err := types.Check(l); got != place || err != e {
		t.Errorf("P12.1: %s: %d, %d; want %d, %d", told(l), got, err, place, e)
	}
}

// takes holds lists to be filters.
func takes(t *testing.T, lists ...[]api.Node) {
	t.Helper()
	for _, l := range lists {
		answers(t, l, 0, api.OK)
	}
}

func TestExamples(t *testing.T) {
	for _, x := range []struct {
		s     string
		place int
		e     api.Errno
	}{
		{"ip and len > 5", 0, api.OK}, {"len", 0, api.ErrTypeBool}, {"ip + 1 = 2", 2, api.ErrTypeNumber}, {"not 5", 1, api.ErrTypeBool}, {"ip = 1", 2, api.ErrTypeNumber},
		{"len / (1-1) = 0", 4, api.ErrTypeZero}, {"len / (len-len) = 0", 0, api.OK}, {"1 % 0 = 1 or ip", 2, api.ErrTypeZero},
		{"ip[0:3] = 1", 1, api.ErrTypeRange}, {"port 70000", 0, api.ErrTypeRange}, {"portrange 9-1", 0, api.ErrTypeRange},
		{"net 10.0.0.1/8", 0, api.ErrTypeHost}, {"net 0.0.0.0/33", 0, api.ErrTypeRange}, {"proto 65536", 0, api.ErrTypeRange},
	} {
		answers(t, source(t, x.s), x.place, x.e)
	}
	answers(t, nil, 0, api.ErrTypeTree)
	answers(t, list(ip(), ip()), 2, api.ErrTypeTree)
	answers(t, list(kind(api.NodeAnd)), 0, api.ErrTypeTree)
	answers(t, list(api.Node{Kind: api.NodeLen, N: 1}), 0, api.ErrTypeTree)
	// 12 for the first word, and 13 for each of 229 words with their or: 2989. The next word passes 3000.
	answers(t, source(t, "ip"+strings.Repeat(" or ip", 250)), 459, api.ErrTypeWeight)
	constant(t, source(t, "2*3-7"), 4294967295)
	for _, s := range []string{"1/0", "len", "ip"} {
		noConstant(t, source(t, s))
	}
}

func TestFilters(t *testing.T) {
	for _, s := range []string{
		"ip", "mp", "inbound", "outbound and lcp", "not not (ip or ip6 and tcp)", "1 = 1", "1 + 2 * 3 - 4 / 5 % 6 & 7 | 8 ^ 9 << 10 >> 11 != 12",
		"len < 1 or len <= 1 or len > 1 or len >= 1 or len == 1", "-len = - - 1", "ip[ip[0] & 15 - 5] = 0x45", "ppp[0] = ip6cp[len:4] + tcp[ip[9]:2]",
		"proto 0 or proto 65535", "ip proto 0 or ip6 proto 255", "host 1.2.3.4 and src host :: and dst host ::1", "net 0.0.0.0/0 or net ::/0 or src net 1.2.3.4/32 or dst net 1::2/128",
		"port 0 or src port 65535 or tcp dst portrange 0-65535 or udp port 1", "len / len = len % ip[0]", "0 / 1 = 0 % 1",
	} {
		takes(t, source(t, s))
	}
}

func TestNoOneTree(t *testing.T) {
	answers(t, []api.Node{}, 0, api.ErrTypeTree)
	for _, l := range [][]api.Node{
		list(ip(), ip()), list(number(1), number(1)), list(number(1), ip()), list(ip(), number(1)), list(ip(), ip(), ip()),
		list(ip(), ip(), kind(api.NodeNot)), list(ip(), number(1), number(1), rel(api.OpEq)), list(ip(), ip(), ip(), kind(api.NodeAnd)),
		list(number(1), number(1), number(1), arith(api.OpAdd)), slices.Repeat(list(ip()), 1000), slices.Repeat(list(number(1)), 1000),
	} {
		answers(t, l, len(l), api.ErrTypeTree)
	}
}

func TestPartsNotFound(t *testing.T) {
	one := []int{api.NodeLoad, api.NodeMinus, api.NodeNot}
	two := []int{api.NodeArith, api.NodeRel, api.NodeAnd, api.NodeOr}
	for _, k := range slices.Concat(one, two) {
		n := sound(k)
		answers(t, list(n), 0, api.ErrTypeTree)
		answers(t, list(n, ip()), 0, api.ErrTypeTree)
		answers(t, list(n, n, n), 0, api.ErrTypeTree)
	}
	for _, k := range two {
		n := sound(k)
		answers(t, list(ip(), n), 1, api.ErrTypeTree)
		answers(t, list(number(1), n), 1, api.ErrTypeTree)
		answers(t, list(ip(), kind(api.NodeNot), n), 2, api.ErrTypeTree)
		answers(t, list(ip(), ip(), kind(api.NodeOr), n, ip()), 3, api.ErrTypeTree)
		answers(t, list(number(1), number(2), arith(api.OpAdd), n), 3, api.ErrTypeTree)
	}
}

func TestOtherKinds(t *testing.T) {
	for _, k := range []int{-1 << 63, -17, -1, 0, 17, 18, 99, 1<<63 - 1} {
		answers(t, list(kind(k)), 0, api.ErrTypeTree)
		answers(t, list(ip(), kind(k)), 1, api.ErrTypeTree)
		answers(t, list(ip(), ip(), kind(k)), 2, api.ErrTypeTree)
		answers(t, list(ip(), kind(k), kind(api.NodeAnd)), 1, api.ErrTypeTree)
		answers(t, list(kind(k), ip()), 0, api.ErrTypeTree)
	}
}

// A number in the place of a truth, and the other way round, in each place.
func TestWrongParts(t *testing.T) {
	numbers := [][]api.Node{list(number(0)), list(number(7)), list(kind(api.NodeLen)), source(t, "ip[0]"), source(t, "1 + 2"), source(t, "-len")}
	truths := [][]api.Node{list(ip()), list(way(api.SideSrc)), list(proto(1)), list(next(api.OfIP, 1)), list(host(api.OfIP, 0)), list(net(api.OfIP6, 0, 0)), list(port(0, 0, 1, 1)),
		source(t, "1 = 1"), source(t, "ip and ip"), source(t, "ip or ip"), source(t, "not ip")}
	for _, right := range numbers {
		for _, wrong := range truths {
			for _, k := range []int{api.NodeLoad, api.NodeMinus} {
				answers(t, append(slices.Clone(wrong), sound(k)), len(wrong), api.ErrTypeNumber)
				answers(t, append(slices.Clone(right), sound(k)), len(right), api.ErrTypeBool)
			}
			answers(t, append(slices.Clone(right), kind(api.NodeNot)), len(right), api.ErrTypeBool)
			takes(t, append(slices.Clone(wrong), kind(api.NodeNot)))
			all := len(right) + len(wrong)
			for _, k := range []int{api.NodeArith, api.NodeRel} {
				answers(t, append(slices.Concat(right, wrong), sound(k)), all, api.ErrTypeNumber)
				answers(t, append(slices.Concat(wrong, right), sound(k)), all, api.ErrTypeNumber)
				answers(t, append(slices.Concat(wrong, wrong), sound(k)), 2*len(wrong), api.ErrTypeNumber)
			}
			takes(t, append(slices.Concat(right, right), rel(api.OpEq)))
			for _, k := range []int{api.NodeAnd, api.NodeOr} {
				answers(t, append(slices.Concat(right, wrong), sound(k)), all, api.ErrTypeBool)
				answers(t, append(slices.Concat(wrong, right), sound(k)), all, api.ErrTypeBool)
				answers(t, append(slices.Concat(right, right), sound(k)), 2*len(right), api.ErrTypeBool)
				takes(t, append(slices.Concat(wrong, wrong), sound(k)))
			}
		}
	}
}

// Where a node has two points, the first counts.
func TestFirstPoint(t *testing.T) {
	one := number(1)
	answers(t, list(ip(), load(api.OfMP, 3)), 1, api.ErrTypeTree)
	answers(t, list(ip(), load(api.OfIP, 3)), 1, api.ErrTypeNumber)
	answers(t, list(one, load(api.OfIP, 3)), 1, api.ErrTypeRange)
	answers(t, list(ip(), ip(), arith(11)), 2, api.ErrTypeTree)
	answers(t, list(ip(), number(0), arith(api.OpDiv)), 2, api.ErrTypeNumber)
	answers(t, list(one, number(0), arith(api.OpDiv)), 2, api.ErrTypeZero)
	answers(t, list(one, number(0), api.Node{Kind: api.NodeArith, Op: api.OpMod, Bits: 1}), 2, api.ErrTypeTree)
	answers(t, list(one, one, api.Node{Kind: api.NodeAnd, M: 1}), 2, api.ErrTypeTree)
	answers(t, list(one, api.Node{Kind: api.NodeNot, Of: 1}), 1, api.ErrTypeTree)
	answers(t, list(ip(), ip(), api.Node{Kind: api.NodeRel, Op: 7}), 2, api.ErrTypeTree)
	answers(t, list(net(api.OfIP, 3, 33, 1, 2, 3, 4)), 0, api.ErrTypeTree)
	answers(t, list(net(api.OfIP, 0, 33, 1, 2, 3, 4)), 0, api.ErrTypeRange)
	answers(t, list(net(api.OfIP, 0, 31, 1, 2, 3, 5)), 0, api.ErrTypeHost)
	answers(t, list(net(api.OfIP, 0, 8, 1, 2, 3, 4, 5)), 0, api.ErrTypeTree)
	answers(t, list(net(api.OfIP, 0, 33, 1, 2, 3, 4, 5)), 0, api.ErrTypeTree)
	answers(t, list(net(api.OfIP6, 0, -1, 1)), 0, api.ErrTypeRange)
	answers(t, list(port(api.OfIP, 0, 9, 1)), 0, api.ErrTypeTree)
	answers(t, list(port(0, 3, 70000, 70000)), 0, api.ErrTypeTree)
	answers(t, list(next(api.OfTCP, 256)), 0, api.ErrTypeTree)
}

// Of two nodes the first one counts, whatever it has, and any node ahead of what is asked of the whole.
func TestFirstNode(t *testing.T) {
	wrong := []struct {
		l    []api.Node
		e    api.Errno
		into int
	}{
		{list(kind(0)), api.ErrTypeTree, 0}, {list(api.Node{Kind: api.NodeLen, N: 1}), api.ErrTypeTree, 0}, {list(word(api.OfPPP)), api.ErrTypeTree, 0},
		{list(number(1), kind(api.NodeNot)), api.ErrTypeBool, 1}, {list(ip(), kind(api.NodeMinus)), api.ErrTypeNumber, 1},
		{list(number(1), number(0), arith(api.OpDiv)), api.ErrTypeZero, 2}, {list(proto(65536)), api.ErrTypeRange, 0}, {list(net(api.OfIP, 0, 0, 1)), api.ErrTypeHost, 0},
	}
	for _, a := range wrong {
		for _, b := range wrong {
			answers(t, slices.Concat(a.l, b.l), a.into, a.e)
			answers(t, slices.Concat(list(ip()), a.l, b.l, list(kind(api.NodeAnd))), 1+a.into, a.e)
		}
		answers(t, slices.Concat(list(ip(), ip()), a.l), 2+a.into, a.e)
		answers(t, slices.Concat(list(number(1)), a.l), 1+a.into, a.e)
		answers(t, slices.Concat(a.l, list(number(1))), a.into, a.e)
		heavy := slices.Repeat(list(port(0, 0, 1, 1)), 100)
		answers(t, slices.Concat(heavy, a.l), 100+a.into, a.e)
	}
}

func TestRootIsNumber(t *testing.T) {
	for _, s := range []string{"0", "len", "ip[0]", "1 + 1", "-1", "len / len", "ip[ip[0]]"} {
		l := source(t, s)
		answers(t, l, len(l)-1, api.ErrTypeBool)
	}
}
