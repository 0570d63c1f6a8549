package lower_test

import (
	"slices"
	"testing"

	"riddle/api"
	"riddle/graph"
	"riddle/types"
)

// measured tells the Measure of a filter's graph.
func measured(t *testing.T, l []api.Node, link api.Link) int {
	t.Helper()
	n, _ := graph.Measure(lowered(t, l, link))
	return n
}

// truths tells a truth of each kind, as costly as it may be.
func truths(t *testing.T) [][]api.Node {
	out := each(
		goes(api.SideSrc), word(api.OfIP), word(api.OfTCP), word(api.OfICMP), word(api.OfICMP6), word(api.OfMP), word(api.OfIP6CP), proto(0xc021), next(api.OfIP, 17), next(api.OfIP6, 255),
		host(api.OfIP, api.SideAny, 1, 2, 3, 4), host(api.OfIP6, api.SideAny, 1, 2, 3, 4), host(api.OfIP6, api.SideSrc, 1, 2, 3, 4), net(api.OfIP, api.SideAny, 31, 1, 2, 3, 4), net(api.OfIP, api.SideDst, 0), net(api.OfIP6, api.SideAny, 127, 1, 2, 3, 4), net(api.OfIP6, api.SideAny, 97, 1, 2, 3, 4),
		port(api.OfAny, api.SideAny, 53, 80), port(api.OfTCP, api.SideSrc, 5, 5),
	)
	for _, s := range []string{
		"1 = 1", "len = len", "len < len", "1 > len", "icmp[len] = 0", "icmp6[len:4] != icmp[len:2]", "udp[tcp[icmp[len]]] = icmp6[len]", "ip[0] = 0", "ppp[len] = 0", "lcp[pap[chap[len]]] = ipcp[ip6cp[len]]", "len / len % len = len << len", "-len = 5", "5 = - -len", "len >> 32 = len", "len - (len - (len - len)) = 1", "ip6[len] * (ip[1] + (ip[len] | ip[3])) = 7",
	} {
		out = append(out, source(t, s))
	}
	return out
}

// A weight is never below what its nodes need, so that what a filter needs beside them is the same for all.
func TestMeasure(t *testing.T) {
	for _, link := range links() {
		fixed := measured(t, list(goes(api.SideSrc)), link)
		if fixed > api.MaxProgram-api.MaxWeight {
			t.Errorf("P16.1: %+v: what stands ahead of a filter has a Measure of %d", link, fixed)
		}
		for _, l := range truths(t) {
			if n := measured(t, l, link); n > fixed+types.Weight(l) {
				t.Errorf("P16.1: %s, %+v: a Measure of %d, %d of which stand ahead, at a weight of %d", told(l), link, n, fixed, types.Weight(l))
			}
		}
	}
}

// filled tells as many of a truth as may be, put together in one of four shapes, and so many nots that it is as heavy as may be.
func filled(l []api.Node, shape int) []api.Node {
	join := []func(a, b []api.Node) []api.Node{and, or}[shape%2]
	count := (api.MaxWeight + 1) / (types.Weight(l) + 1)
	var out []api.Node
	if shape < 2 {
		out = slices.Repeat(l, count)
		out = append(out, many(count-1, join(nil, nil)[0])...)
	} else {
		out = l
		for range count - 1 {
			out = join(out, l)
		}
	}
	return append(out, many(api.MaxWeight-types.Weight(out), kind(api.NodeNot))...)
}

// Filters as heavy as may be, of each kind of truth, in each shape; one not more is too much.
func TestHeaviest(t *testing.T) {
	t.Parallel()
	frames := [][]byte{f(), saying(1, 2, 3), joined(fromHex("ff030057"), headerIP6(58)), fromHex("ff0321")}
	rich := api.Link{ACFC: true, PFC: true, MP: api.MultiLong}
	var n tally
	for turn, l := range truths(t) {
		for shape := range 4 {
			full := filled(l, shape)
			if w := types.Weight(full); w != api.MaxWeight {
				t.Fatalf("a weight of %d", w)
			}
			for _, link := range []api.Link{plain(), rich} {
				n.agrees(t, full, link, frames[(turn+shape)%4])
				refuses(t, not(full), link, api.ErrLowerTree)
			}
		}
	}
	n.enough(t, 20)
}

// Different truths together, as heavy as may be, on every link.
func TestHeaviestMixed(t *testing.T) {
	t.Parallel()
	var n tally
	all := truths(t)
	for turn, link := range links() {
		l := all[turn]
		for i := 1; ; i++ {
			more := []func(a, b []api.Node) []api.Node{and, or}[i%2](not(l), all[(turn+i)%len(all)])
			if types.Weight(more) > api.MaxWeight {
				break
			}
			l = more
		}
		l = append(l, many(api.MaxWeight-types.Weight(l), kind(api.NodeNot))...)
		n.agrees(t, l, link, oneOf(97, turn, append(wellFormed(link), illFormed(link)...))...)
		refuses(t, not(l), link, api.ErrLowerTree)
	}
	n.enough(t, 20)
}
