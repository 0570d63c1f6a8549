package types_test

import (
	"math/rand"
	"slices"
	"testing"

	"riddle/api"
	"riddle/types"
)

// grower grows trees by chance; of so many nodes one has a field that was turned, of 0 none.
type grower struct {
	chance    *rand.Rand
	l         []api.Node
	wrong     int
	constants bool // numbers alone, no len, no loads
}

func (g *grower) put(n api.Node) {
	if g.wrong > 0 && g.chance.Intn(g.wrong) == 0 {
		some := variants(n)
		field := some[g.chance.Intn(len(some))]
		n = field[g.chance.Intn(len(field))]
	}
	g.l = append(g.l, n)
}

func (g *grower) number(depth int) {
	pick := g.chance.Intn(8)
	switch {
	case depth > 0 && pick < 4:
		g.number(depth - 1)
		g.number(depth - 1)
		g.put(arith(1 + g.chance.Intn(api.OpShr)))
	case depth > 0 && pick == 4:
		g.number(depth - 1)
		g.put(kind(api.NodeMinus))
	case depth > 0 && pick == 5 && !g.constants:
		g.number(depth - 1)
		g.put(load(1+g.chance.Intn(api.OfIP6CP), []int{1, 2, 4}[g.chance.Intn(3)]))
	case pick == 6 && !g.constants:
		g.put(kind(api.NodeLen))
	default:
		g.put(number([]uint32{0, 1, 1, 2, 3, 31, 32, 65536, 1 << 31, 1<<32 - 1, g.chance.Uint32()}[g.chance.Intn(11)]))
	}
}

func (g *grower) truth(depth int) {
	pick := g.chance.Intn(10)
	switch {
	case depth > 0 && pick < 4:
		g.truth(depth - 1)
		g.truth(depth - 1)
		g.put(kind([]int{api.NodeAnd, api.NodeOr}[pick%2]))
	case depth > 0 && pick < 6:
		g.truth(depth - 1)
		g.put(kind(api.NodeNot))
	case depth > 0 && pick < 9:
		g.number(depth - 1)
		g.number(depth - 1)
		g.put(rel(1 + g.chance.Intn(api.OpGe)))
	default:
		leaves := list(ip(), word(api.OfMP), way(api.SideDst), proto(33), next(api.OfIP6, 58), host(api.OfIP, api.SideAny, 1, 2, 3, 4), host(api.OfIP6, api.SideSrc, 1, 2, 3, 4, 5),
			net(api.OfIP, api.SideDst, 9, 10, 128), net(api.OfIP6, api.SideAny, 33, 1, 2, 3, 4, 128), port(api.OfAny, api.SideAny, 5, 5), port(api.OfUDP, api.SideSrc, 0, 65535))
		g.put(leaves[g.chance.Intn(len(leaves))])
	}
}

// grown tells a filter by chance.
func grown(chance *rand.Rand, depth int) []api.Node {
	for {
		g := grower{chance: chance}
		g.truth(depth)
		// A divisor may have come to be 0.
		if _, e := firstPoint(g.l); e == api.OK {
			return g.l
		}
	}
}

// shuffled tells the list with one node taken out, put in twice, or changed for another one of it.
func shuffled(chance *rand.Rand, l []api.Node) []api.Node {
	out := slices.Clone(l)
	a, b := chance.Intn(len(l)), chance.Intn(len(l))
	switch chance.Intn(4) {
	case 0:
		return slices.Delete(out, a, a+1)
	case 1:
		return slices.Insert(out, a, l[b])
	case 2:
		out[a], out[b] = out[b], out[a]
		return out
	}
	return out[:a]
}

// Lists by chance, right ones and wrong ones, against a second reckoning of all that the chapter says.
func TestLists(t *testing.T) {
	chance := rand.New(rand.NewSource(12))
	seen := map[api.Errno]int{}
	for i := range 30000 {
		g := grower{chance: chance, wrong: []int{0, 5, 20, 100}[i%4], constants: i%7 == 0}
		if i%3 == 0 {
			g.number(1 + i%5)
		} else {
			g.truth(1 + i%5)
		}
		seen[agrees(t, g.l)]++
		seen[agrees(t, shuffled(chance, g.l))]++
	}
	for _, e := range []api.Errno{api.OK, api.ErrTypeTree, api.ErrTypeBool, api.ErrTypeNumber, api.ErrTypeZero, api.ErrTypeRange, api.ErrTypeHost} {
		if seen[e] < 30 {
			t.Errorf("only %d lists were %d", seen[e], e)
		}
	}
}

// Each truth in a filter is a filter, and two filters joined are one, if they are not too heavy together.
func TestFiltersOfFilters(t *testing.T) {
	chance := rand.New(rand.NewSource(9))
	var filters [][]api.Node
	for range 1000 {
		filters = append(filters, grown(chance, 5))
	}
	for _, l := range filters {
		for _, part := range trees(t, l) {
			root, _ := rowOf(part[len(part)-1].Kind)
			if place, e := types.Check(part); root.is == "t" && (e != api.OK || place != 0) {
				t.Errorf("P12.5: %s of %s: %d, %d", told(part), told(l), place, e)
			}
		}
		other := filters[chance.Intn(len(filters))]
		for _, k := range []int{api.NodeAnd, api.NodeOr} {
			both := append(slices.Concat(l, other), kind(k))
			place, e := types.Check(both)
			if types.Weight(l)+types.Weight(other)+1 <= api.MaxWeight && (e != api.OK || place != 0) {
				t.Errorf("P12.5: %s: %d, %d", told(both), place, e)
			}
		}
	}
	heavy, rest := nots(1488, ip()), nots(1487, ip())
	takes(t, heavy, rest, append(slices.Concat(heavy, rest), kind(api.NodeAnd)), append(slices.Concat(rest, heavy), kind(api.NodeOr)))
	answers(t, append(slices.Concat(heavy, heavy), kind(api.NodeAnd)), 2*1489, api.ErrTypeWeight)
}

// full tells a copy of a list in front of other nodes, which no call has to look at.
func full(l []api.Node) (all, front []api.Node) {
	all = append(slices.Clone(l), filled(api.NodeNot), kind(api.NodeAnd), number(9))
	return all, all[:len(l)]
}

func TestHandedIn(t *testing.T) {
	for _, s := range []string{"ip", "ip and not udp", "ip[2:2]+1 > len", "1 + 2 * 3", "-1", "1 / 0", "net 1.2.3.4/5", "(ip or ip) and (ip or ip)"} {
		l := source(t, s)
		all, front := full(l)
		want := slices.Clone(all)
		place, e := types.Check(l)
		answers(t, front, place, e)
		agrees(t, front)
		parts, _ := types.Parts(front)
		for _, part := range parts {
			part = part[:cap(part)]
			for i := range part {
				part[i] = filled(77)
			}
			_ = append(part, filled(77))
		}
		if !slices.Equal(all, want) {
			t.Errorf("R3: %q: what was handed in was changed", s)
		}
	}
}

func TestHandedOut(t *testing.T) {
	for _, s := range []string{"ip and not udp", "ip or ip", "not ip", "ip[2:2]+1 > len", "1 + 2", "-1", "ip[0]"} {
		l := source(t, s)
		first, _ := types.Parts(l)
		kept := make([][]api.Node, len(first))
		for i, part := range first {
			kept[i] = slices.Clone(part)
		}
		same := func(got [][]api.Node, why string) {
			t.Helper()
			if !slices.EqualFunc(got, kept, slices.Equal[[]api.Node]) {
				t.Errorf("R3: %q: %s", s, why)
			}
		}
		for i := range first {
			parts, _ := types.Parts(l)
			spoiled := parts[i][:cap(parts[i])]
			for at := range spoiled {
				if at >= len(parts[i]) && spoiled[at] != (api.Node{}) {
					t.Errorf("R3: %q: something stands behind part %d", s, i)
				}
				spoiled[at] = filled(77)
			}
			_ = append(parts[i], filled(77))
			for other := range parts {
				if other != i && !slices.Equal(parts[other], kept[other]) {
					t.Errorf("R3: %q: parts %d and %d share memory", s, i, other)
				}
			}
			parts[i] = nil
			same(first, "two answers share memory")
			again, _ := types.Parts(l)
			same(again, "an answer hangs on what was written into an earlier one")
		}
		for i := range l {
			l[i] = filled(77)
		}
		same(first, "an answer shares memory with what was handed in")
		types.Parts(source(t, "not not ip"))
		types.Check(l)
		types.Constant(l)
		same(first, "a later call changed an answer")
	}
}

// Lists of a size that no filter has come to an end too.
func TestGreatLists(t *testing.T) {
	const many = 1 << 20
	leaves := slices.Repeat(list(port(0, 0, 1, 1)), many)
	answers(t, leaves, many, api.ErrTypeTree)
	noTree(t, leaves)
	noConstant(t, leaves)
	weighsOne(t, leaves, 40*many)
	answers(t, append(slices.Repeat(list(number(1)), many), slices.Repeat(list(arith(api.OpAdd)), many-1)...), 2*many-2, api.ErrTypeBool)
	answers(t, nots(1<<16, ip()), 2989, api.ErrTypeWeight)
}

func BenchmarkCheck(b *testing.B) {
	l := slices.Concat(list(ip()), slices.Repeat(list(ip(), kind(api.NodeOr)), 229))
	for b.Loop() {
		if _, e := types.Check(l); e != api.OK {
			b.Fatal(e)
		}
	}
}
