package compile_test

import (
	"math"
	"slices"
	"testing"

	"riddle/api"
	"riddle/compile"
)

// refusesTree holds Tree to an error.
func refusesTree(t testing.TB, l []api.Node, link api.Link, e api.Errno) {
	t.Helper()
	if p, got := compile.Tree(l, link); got != e || len(p) != 0 {
		t.Errorf("P19.2: %v, %+v: %d instructions, %d; want %d", told(l), link, len(p), got, e)
	}
}

// noFilters tells lists that are no filters.
func noFilters() map[api.Errno][][]api.Node {
	ip, one, length := word(api.OfIP), number(1), kind(api.NodeLen)
	and, not, minus := kind(api.NodeAnd), kind(api.NodeNot), kind(api.NodeMinus)
	net := api.Node{Kind: api.NodeNet, Of: api.OfIP, Bits: 8}
	host := net
	net.Addr[3] = 1
	six := api.Node{Kind: api.NodeHost, Of: api.OfIP}
	six.Addr[4] = 1
	host.Bits = 33
	return map[api.Errno][][]api.Node{
		api.ErrTypeTree: {
			nil, {}, {and}, {not}, {minus}, {ip, ip}, {ip, and}, {one, rel(api.OpEq)}, {ip, ip, ip, and}, {ip, one}, {ip, not, not, and},
			{kind(0)}, {kind(17)}, {kind(-1)}, {kind(math.MaxInt)}, {kind(math.MinInt)}, {ip, kind(0)}, {kind(99), one}, {ip, kind(256 + api.NodeNot)},
			{{Kind: api.NodeLen, N: 1}}, {{Kind: api.NodeWord, Of: api.OfIP, Bits: 1}}, {{Kind: api.NodeWord, Of: api.OfIP, Addr: [16]byte{15: 1}}}, {ip, {Kind: api.NodeNot, Op: 1}}, {{Kind: api.NodeWord, Of: api.OfPPP}}, {{Kind: api.NodeWord}}, {word(14)}, {word(-1)}, {six},
			{{Kind: api.NodeWay}}, {{Kind: api.NodeWay, Side: 3}}, {one, one, rel(0)}, {one, one, rel(7)}, {one, one, arith(11), one, rel(1)}, {{Kind: api.NodeHost, Of: api.OfTCP}}, {{Kind: api.NodePort, Of: api.OfIP}}, {{Kind: api.NodePort, Side: 3}}, {one, load(api.OfMP, 1), one, rel(1)},
		},
		api.ErrTypeBool:   {{one}, {length}, {one, minus}, {one, load(api.OfPPP, 1)}, {one, not}, {ip, one, and}, {one, ip, and}, {one, one, arith(api.OpAdd)}},
		api.ErrTypeNumber: {{ip, minus}, {ip, one, rel(api.OpEq)}, {one, ip, arith(api.OpAdd)}, {ip, load(api.OfPPP, 1), one, rel(1)}},
		api.ErrTypeZero:   {{one, number(0), arith(api.OpDiv), one, rel(1)}, {length, one, one, arith(api.OpSub), arith(api.OpMod)}},
		api.ErrTypeRange:  {{one, load(api.OfIP, 3), one, rel(1)}, {one, load(api.OfIP, -1), one, rel(1)}, {{Kind: api.NodeProto, N: 65536}}, {{Kind: api.NodePort, N: 2, M: 1}}, {{Kind: api.NodePort, M: 65536}}, {{Kind: api.NodeNext, Of: api.OfIP, N: 256}}, {host}, {{Kind: api.NodeNet, Of: api.OfIP6, Bits: -1}}, {{Kind: api.NodeNet, Of: api.OfIP6, Bits: 129}}},
		api.ErrTypeHost:   {{net}, {ip, net, and}},
		api.ErrTypeWeight: {append(slices.Repeat(list(ip), 231), many(230, and)...), append(list(ip), many(2989, not)...), append(list(ip), many(1<<20, not)...)},
	}
}

func TestNoFilters(t *testing.T) {
	for e, all := range noFilters() {
		for _, l := range all {
			for _, link := range links() {
				refusesTree(t, l, link, e)
			}
			for _, link := range noLinks() {
				refusesTree(t, l, link, api.ErrCompileLink)
			}
		}
	}
	for _, link := range noLinks() {
		refusesTree(t, treeOf(t, "ip and len > 5"), link, api.ErrCompileLink)
	}
}

// Which of several errors it is: the first node's that has one, in the list's order, and of that node the first; what the whole lacks behind that, the weight last.
func TestWhichErrorOfATree(t *testing.T) {
	ip, zero, not := word(api.OfIP), number(0), kind(api.NodeNot)
	heavy := append(list(ip), many(2989, not)...)
	for _, x := range []struct {
		l []api.Node
		e api.Errno
	}{
		{list(zero, not, kind(99)), api.ErrTypeBool}, {list(kind(99), zero, not), api.ErrTypeTree}, {list(zero, api.Node{Kind: api.NodeNot, N: 1}), api.ErrTypeTree},
		{list(ip, zero, arith(api.OpDiv)), api.ErrTypeNumber}, {list(zero, zero, arith(api.OpDiv), not), api.ErrTypeZero}, {list(ip, load(api.OfIP, 3)), api.ErrTypeNumber}, {list(zero, api.Node{Kind: api.NodeLoad, Size: 3}), api.ErrTypeTree},
		{behind(heavy, heavy), api.ErrTypeTree}, {behind(heavy, list(zero, kind(api.NodeAnd))), api.ErrTypeBool}, {behind(heavy, list(api.Node{Kind: api.NodeProto, N: 65536}, kind(api.NodeOr))), api.ErrTypeRange}, {append(list(zero), many(2000, kind(api.NodeMinus))...), api.ErrTypeBool},
	} {
		refusesTree(t, x.l, plain(), x.e)
		refusesTree(t, x.l, rich(), x.e)
	}
}
