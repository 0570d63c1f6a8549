package compile_test

import (
	"slices"
	"testing"

	"riddle/api"
	"riddle/parse"
	"riddle/show"
	"riddle/types"
)

// heaviest tells a source as heavy as may be: as many of a truth as there is room for, and so many nots as there is room for then.
func heaviest(part, join string) string {
	l, _, _, _ := parse.Parse(part)
	weight := types.Weight(l)
	count := (api.MaxWeight + 1) / (weight + 1)
	nots := api.MaxWeight - (count*(weight+1) - 1)
	return repeat("!", nots) + "(" + part + repeat(join+part, count-1) + ")"
}

// costly tells truths of each kind, each as costly as it may be.
func costly() []string {
	return []string{
		"inbound", "ip", "icmp", "icmp6", "mp", "ip6cp", "proto 0xc021", "ip proto 17", "ip6 proto 255", "host 1.2.3.4", "host 102:304::", "src host 102:304::", "net 1.2.3.4/31", "net 102:304:506::/127", "net 102:304::/97", "portrange 53-80", "tcp src port 5",
		"1 = 1", "len = len", "len < len", "1 > len", "icmp[len] = 0", "icmp6[len:4] != icmp[len:2]", "udp[tcp[icmp[len]]] = icmp6[len]", "ip[0] = 0", "ppp[len] = 0", "lcp[pap[chap[len]]] = ipcp[ip6cp[len]]", "len / len % len = len << len", "-len = 5", "5 = - -len", "len >> 32 = len", "len - (len - (len - len)) = 1", "ip6[len] * (ip[1] + (ip[len] | ip[3])) = 7",
	}
}

// Filters as heavy as may be, of each kind of truth, hold what they say and fit into a program, on every link.
func TestHeaviestSources(t *testing.T) {
	t.Parallel()
	var n tally
	for turn, part := range costly() {
		for at, join := range []string{" and ", " or ", " and not ", " or not "} {
			// Behind not, there is room for fewer.
			s := heaviest(part, join)
			l := treeOf(t, s)
			for types.Weight(l) > api.MaxWeight {
				s = s[:len(s)-len(join+part)-1] + ")"
				l = treeOf(t, s)
			}
			for i, link := range links() {
				n.agrees(t, ofSource(t, s, link), l, link, oneOf(499, turn+4*at+i, append(wellFormed(link), illFormed(link)...))...)
			}
		}
	}
	n.enough(t, 500)
}

// grouped puts truths together by and and or, in turn, from the right: as no source that deep may do.
func grouped(parts ...[]api.Node) []api.Node {
	out := slices.Concat(parts...)
	for at := range parts[1:] {
		out = append(out, kind(api.NodeAnd+at%2))
	}
	return out
}

// Trees as heavy as may be that go to the right as far as they can.
func TestHeaviestTrees(t *testing.T) {
	t.Parallel()
	var n tally
	for turn, part := range costly() {
		one := treeOf(t, part)
		count := (api.MaxWeight + 1) / (types.Weight(one) + 1)
		l := grouped(slices.Repeat([][]api.Node{one}, count)...)
		l = append(l, many(api.MaxWeight-types.Weight(l), kind(api.NodeNot))...)
		for i, link := range links() {
			n.agrees(t, ofTree(t, l, link), l, link, oneOf(173, turn+i, append(wellFormed(link), illFormed(link)...))...)
			refusesTree(t, append(slices.Clone(l), kind(api.NodeNot)), link, api.ErrTypeWeight)
		}
	}
	n.enough(t, 300)
}

// Different truths together, as heavy as may be.
func TestHeaviestMixed(t *testing.T) {
	t.Parallel()
	var n tally
	all := costly()
	for turn, link := range links() {
		var parts [][]api.Node
		for i := 0; ; i++ {
			more := append(parts, treeOf(t, all[(5*turn+i)%len(all)]))
			if types.Weight(grouped(more...)) > api.MaxWeight {
				break
			}
			parts = more
		}
		l := grouped(parts...)
		l = append(l, many(api.MaxWeight-types.Weight(l), kind(api.NodeNot))...)
		n.agrees(t, ofTree(t, l, link), l, link, oneOf(7, turn, append(wellFormed(link), illFormed(link)...))...)
	}
	n.enough(t, 300)
}

// Filters that are nested deeper than any source may be: what they say is told without asking mean for it.
func TestDeepTrees(t *testing.T) {
	tower := func(first []api.Node, count int, more ...api.Node) []api.Node {
		return append(slices.Clone(first), slices.Repeat(more, count)...)
	}
	// len - (len - (... - len)), of an even number of len: 0; and ppp[2] << (ppp[2] << ...): 0.
	rightward := func(leaf []api.Node, op, count int) []api.Node {
		return append(slices.Repeat(leaf, count), many(count-1, arith(op))...)
	}
	length, nought := list(kind(api.NodeLen)), list(number(0))
	udp, tcp := list(word(api.OfUDP)), list(word(api.OfTCP))
	for _, x := range []struct {
		l    []api.Node
		want uint32
	}{
		{tower(udp, 201, kind(api.NodeNot)), 0}, {tower(udp, 202, kind(api.NodeNot)), 1}, {tower(udp, 2988, kind(api.NodeNot)), 1}, {tower(udp, 2987, kind(api.NodeNot)), 0}, {tower(tcp, 2987, kind(api.NodeNot)), 1},
		{behind(tower(length, 1494, kind(api.NodeMinus)), length, list(rel(api.OpEq))), 1}, {behind(tower(length, 1493, kind(api.NodeMinus)), length, list(rel(api.OpEq))), 0},
		{behind(rightward(length, api.OpSub, 370), nought, list(rel(api.OpEq))), 1}, {behind(rightward(length, api.OpSub, 371), nought, list(rel(api.OpEq))), 0}, {behind(rightward(length, api.OpSub, 371), list(number(28)), list(rel(api.OpEq))), 1},
		{behind(nought, rightward(length, api.OpOr, 300), list(rel(api.OpLt))), 1}, {behind(rightward(length, api.OpXor, 300), rightward(length, api.OpXor, 60), list(rel(api.OpEq))), 1},
		{append(slices.Repeat(udp, 230), many(229, kind(api.NodeAnd))...), 1}, {append(slices.Repeat(tcp, 230), many(229, kind(api.NodeOr))...), 0}, {behind(slices.Repeat(tcp, 229), udp, many(229, kind(api.NodeOr))), 1},
	} {
		if _, e := show.Show(x.l); e != api.ErrShowDeep {
			t.Fatalf("%v: a source may be so deep: %d", told(x.l), e)
		}
		for _, link := range links() {
			p := ofTree(t, x.l, link)
			for _, way := range ways() {
				comesTo(t, told(x.l), p, link, way, f(), x.want)
				comesTo(t, told(x.l), p, link, way, f()[:9], 0)
			}
		}
	}
}
