package types_test

import (
	"math/rand"
	"slices"
	"strings"
	"testing"

	"riddle/api"
	"riddle/types"
)

// weighsOne holds a list to its weight.
func weighsOne(t *testing.T, l []api.Node, want int) {
	t.Helper()
	if got := types.Weight(l); got != want {
		t.Errorf("P12.3: %s: %d; want %d", told(l), got, want)
	}
}

func TestWeights(t *testing.T) {
	for of := -1; of <= 15; of++ {
		for k, want := range map[int]int{
			api.NodeNumber: 1, api.NodeLen: 2, api.NodeLoad: 24, api.NodeArith: 6, api.NodeMinus: 2, api.NodeRel: 8, api.NodeAnd: 1, api.NodeOr: 1, api.NodeNot: 1,
			api.NodeWay: 6, api.NodeWord: 12, api.NodeProto: 8, api.NodeNext: 16, api.NodeHost: 24, api.NodeNet: 32, api.NodePort: 40,
			-1: 0, 0: 0, 17: 0, 99: 0, 1 << 40: 0, -1 << 63: 0,
		} {
			if of == api.OfIP6 && (k == api.NodeHost || k == api.NodeNet) {
				want += 48
			}
			n := api.Node{Kind: k, Of: of}
			weighsOne(t, list(n), want)
			n.Op, n.N, n.M, n.Size, n.Side, n.Addr, n.Bits = 9, 9, 9, 9, 9, [16]byte{9, 15: 9}, 9
			weighsOne(t, list(n), want)
			weighsOne(t, list(ip(), n, kind(99), n), 12+2*want)
		}
	}
	weighsOne(t, nil, 0)
	weighsOne(t, slices.Repeat(list(host(api.OfIP6, 0)), 1<<16), 72<<16)
	weighsOne(t, source(t, "ip and len > 5"), 12+2+1+8+1)
}

// nots tells a tree with so many nots behind it.
func nots(count int, l ...api.Node) []api.Node {
	return append(l, slices.Repeat(list(kind(api.NodeNot)), count)...)
}

func TestMaxWeight(t *testing.T) {
	for _, s := range []string{
		"ip", "inbound", "proto 1", "ip proto 1", "host 1.2.3.4", "host ::1", "net 1.0.0.0/8", "net ::/0", "port 1", "1 = 1", "ip[0] + 1 = -len", "ip and ip or ip",
		"ip" + strings.Repeat(" or ip", 220), "ip" + strings.Repeat(" and ip[len:2] = 7", 80),
	} {
		l := source(t, s)
		left := api.MaxWeight - types.Weight(l)
		full := nots(left, l...)
		takes(t, nots(left-1, l...), full)
		for more := 1; more < 4; more++ {
			answers(t, nots(left+more, l...), len(full), api.ErrTypeWeight)
		}
	}
}

// The node with which the bound is passed is of each kind once, by just one and by more than that.
func TestPassingNode(t *testing.T) {
	passing := []struct {
		ahead []api.Node
		n     api.Node
		rest  []api.Node
	}{
		{nil, number(1), list(number(1), rel(api.OpEq), kind(api.NodeAnd))}, {nil, kind(api.NodeLen), list(number(1), rel(api.OpEq), kind(api.NodeOr))},
		{list(number(1)), load(api.OfIP, 1), list(number(1), rel(api.OpEq), kind(api.NodeAnd))}, {list(number(1), number(1)), arith(api.OpAdd), list(number(1), rel(api.OpEq), kind(api.NodeAnd))},
		{list(number(1)), kind(api.NodeMinus), list(number(1), rel(api.OpEq), kind(api.NodeAnd))}, {list(number(1), number(1)), rel(api.OpEq), list(kind(api.NodeAnd))},
		{list(ip()), kind(api.NodeAnd), nil}, {list(ip()), kind(api.NodeOr), nil}, {nil, kind(api.NodeNot), nil},
		{nil, way(1), list(kind(api.NodeAnd))}, {nil, ip(), list(kind(api.NodeAnd))}, {nil, proto(1), list(kind(api.NodeAnd))}, {nil, next(api.OfIP6, 1), list(kind(api.NodeAnd))},
		{nil, host(api.OfIP, 0), list(kind(api.NodeAnd))}, {nil, host(api.OfIP6, 0), list(kind(api.NodeAnd))}, {nil, net(api.OfIP, 0, 0), list(kind(api.NodeAnd))}, {nil, net(api.OfIP6, 0, 0), list(kind(api.NodeAnd))},
		{nil, port(0, 0, 1, 1), list(kind(api.NodeOr))},
	}
	for _, x := range passing {
		own := types.Weight(list(x.n))
		for over := 1; over <= own; over++ {
			count := api.MaxWeight + over - own - types.Weight(x.ahead) - 12
			ahead := append(nots(count, ip()), x.ahead...)
			l := append(append(slices.Clone(ahead), x.n), x.rest...)
			answers(t, l, len(ahead), api.ErrTypeWeight)
			if weighed(ahead) > api.MaxWeight || weighed(l[:len(ahead)+1]) != api.MaxWeight+over {
				t.Fatalf("%s is no such list", told(l))
			}
		}
	}
}

// All else that is wrong counts ahead of the weight.
func TestWeightLast(t *testing.T) {
	heavy := nots(5000, ip())
	answers(t, heavy, 2989, api.ErrTypeWeight)
	answers(t, append(slices.Clone(heavy), number(1)), len(heavy)+1, api.ErrTypeTree)
	answers(t, append(slices.Clone(heavy), kind(api.NodeOr)), len(heavy), api.ErrTypeTree)
	answers(t, append(slices.Clone(heavy), kind(api.NodeMinus)), len(heavy), api.ErrTypeNumber)
	answers(t, append(slices.Clone(heavy), proto(65536)), len(heavy), api.ErrTypeRange)
	number5 := append(list(number(5)), slices.Repeat(list(kind(api.NodeMinus)), 5000)...)
	answers(t, number5, len(number5)-1, api.ErrTypeBool)
	answers(t, append(slices.Clone(number5), kind(api.NodeNot)), len(number5), api.ErrTypeBool)
	answers(t, append(slices.Clone(number5), number(5), rel(api.OpEq)), 1500, api.ErrTypeWeight)
}

func TestHeavyByChance(t *testing.T) {
	chance := rand.New(rand.NewSource(4))
	seen := 0
	for range 200 {
		l := grown(chance, 3)
		for weighed(l) < 2900 {
			l = append(append(l, grown(chance, 3)...), kind(api.NodeAnd))
		}
		passed := 0
		for weighed(l[:passed]) <= api.MaxWeight && passed < len(l) {
			passed++
		}
		if weighed(l[:passed]) <= api.MaxWeight {
			takes(t, l)
			continue
		}
		answers(t, l, passed-1, api.ErrTypeWeight)
		seen++
	}
	if seen < 20 {
		t.Errorf("only %d lists were too heavy", seen)
	}
}
