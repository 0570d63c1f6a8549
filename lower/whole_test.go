package lower_test

import (
	"math/rand"
	"reflect"
	"slices"
	"sync"
	"testing"

	"riddle/api"
	"riddle/lower"
	"riddle/types"
)

// grower makes trees by chance, of such things as frames of these tests have.
type grower struct {
	chance *rand.Rand
	l      []api.Node
}

func (g *grower) one(some ...int) int { return some[g.chance.Intn(len(some))] }

func (g *grower) put(n api.Node) { g.l = append(g.l, n) }

func (g *grower) number(depth int) {
	pick := g.chance.Intn(9)
	switch {
	case depth > 0 && pick < 3:
		g.number(depth - 1)
		g.number(depth - 1)
		g.put(arith(1 + g.chance.Intn(api.OpShr)))
	case depth > 0 && pick == 3:
		g.number(depth - 1)
		g.put(kind(api.NodeMinus))
	case depth > 0 && pick < 7:
		g.number(depth - 1)
		g.put(load(g.one(api.OfPPP, api.OfPPP, api.OfIP, api.OfIP, api.OfIP6, 1+g.chance.Intn(api.OfIP6CP)), g.one(1, 2, 4)))
	case pick == 7:
		g.put(kind(api.NodeLen))
	default:
		g.put(number([]uint32{0, 1, 2, 4, 5, 9, 17, 20, 31, 32, 33, 255, 0x45, 1<<32 - 1, g.chance.Uint32()}[g.chance.Intn(15)]))
	}
}

func (g *grower) truth(depth int) {
	pick := g.chance.Intn(12)
	switch {
	case depth > 0 && pick < 4:
		g.truth(depth - 1)
		g.truth(depth - 1)
		g.put(kind(g.one(api.NodeAnd, api.NodeOr)))
	case depth > 0 && pick < 5:
		g.truth(depth - 1)
		g.put(kind(api.NodeNot))
	case depth > 0 && pick < 9:
		g.number(depth - 1)
		g.number(depth - 1)
		g.put(rel(1 + g.chance.Intn(api.OpGe)))
	default:
		g.put(g.leaf())
	}
}

func (g *grower) leaf() api.Node {
	side, carrier := g.chance.Intn(3), g.one(api.OfIP, api.OfIP6)
	own := address(carrier, g.one(api.SideSrc, api.SideDst))
	first := uint32(g.one(0, 53, 54, 80, g.chance.Intn(65536)))
	switch g.chance.Intn(7) {
	case 0:
		return word(api.OfIP + g.chance.Intn(12))
	case 1:
		return goes(g.one(api.SideSrc, api.SideDst))
	case 2:
		return proto(uint32(g.one(0x21, 0x57, 0x3d, 0xc021, 0xc023, 0xc223, 0x8021, 0x8057, g.chance.Intn(65536))))
	case 3:
		return next(carrier, uint32(g.one(1, 6, 17, 58, g.chance.Intn(256))))
	case 4:
		return host(carrier, side, own...)
	case 5:
		bits := g.chance.Intn(8*len(own) + 1)
		if bits > 0 && g.chance.Intn(2) == 0 {
			own = flipped(own, g.chance.Intn(bits))
		}
		return net(carrier, side, bits, cut(own, bits)...)
	}
	return port(g.one(api.OfAny, api.OfTCP, api.OfUDP), side, first, min(65535, first+uint32(g.one(0, 1, 30, 60000))))
}

// grown tells a filter by chance.
func grown(chance *rand.Rand, depth int) []api.Node {
	for {
		g := grower{chance: chance}
		g.truth(depth)
		// A divisor may have come to be 0, and the whole too heavy.
		if _, e := types.Check(g.l); e == api.OK {
			return g.l
		}
	}
}

// spoiled tells frames with something about them changed by chance.
func spoiled(chance *rand.Rand, frames [][]byte) [][]byte {
	var out [][]byte
	for _, b := range frames {
		b = slices.Clone(b)
		switch chance.Intn(6) {
		case 0:
			b = b[:chance.Intn(len(b)+1)]
		case 1:
			b = behind(b, chance.Intn(100))
		case 2, 3:
			for range chance.Intn(4) {
				b[chance.Intn(len(b))] = byte(chance.Intn(256))
			}
		}
		out = append(out, b)
	}
	return out
}

// Filters by chance, over frames by chance, on every link.
func TestByChance(t *testing.T) {
	t.Parallel()
	kinds := map[int]*tally{}
	for kind := api.NodeRel; kind <= api.NodePort; kind++ {
		kinds[kind] = new(tally)
	}
	chance := rand.New(rand.NewSource(16))
	frames := map[api.Link][][]byte{}
	for _, link := range links() {
		frames[link] = wellFormed(link)
	}
	for i := range 5000 {
		link := links()[i%12]
		l := grown(chance, i%7)
		own := frames[link]
		var some [][]byte
		for range 6 {
			some = append(some, own[chance.Intn(len(own))])
		}
		kinds[l[len(l)-1].Kind].agrees(t, l, link, spoiled(chance, some)...)
	}
	for _, n := range kinds {
		n.enough(t, 10)
	}
}

// The same filter on the same link is the same blocks each time, whatever was asked between.
func TestSameEachTime(t *testing.T) {
	chance := rand.New(rand.NewSource(61))
	type call struct {
		l    []api.Node
		link api.Link
		g    []api.Block
	}
	var calls []call
	for i := range 300 {
		l, link := grown(chance, i%6), links()[i%12]
		calls = append(calls, call{l, link, lowered(t, l, link)})
	}
	for i := range calls {
		c := calls[(i*7)%len(calls)]
		if again := lowered(t, slices.Clone(c.l), c.link); !reflect.DeepEqual(again, c.g) {
			t.Errorf("R4: %s, %+v: other blocks", told(c.l), c.link)
		}
	}
	var side sync.WaitGroup
	for worker := range 8 {
		side.Go(func() {
			for i := range calls {
				c := calls[(i+37*worker)%len(calls)]
				if g, e := lower.Lower(c.l, c.link); e != api.OK || !reflect.DeepEqual(g, c.g) {
					t.Errorf("R4: %s, %+v: other blocks side by side, %d", told(c.l), c.link, e)
				}
			}
		})
	}
	side.Wait()
}

// Only what was negotiated counts, and what the list's memory has behind it does not.
func TestHandedIn(t *testing.T) {
	chance := rand.New(rand.NewSource(62))
	for i := range 200 {
		l, link := grown(chance, i%6), links()[i%12]
		all := slices.Concat(l, list(kind(api.NodeNot), number(9), kind(99)))
		want := slices.Clone(all)
		first, second := lowered(t, l, link), lowered(t, all[:len(l)], link)
		if !slices.Equal(all, want) {
			t.Fatalf("R3: %s: what was handed in was changed", told(l))
		}
		if !reflect.DeepEqual(first, second) {
			t.Errorf("R3: %s: what stands behind the list counts", told(l))
		}
		for at := range all {
			all[at] = kind(99)
		}
		if !reflect.DeepEqual(first, second) {
			t.Errorf("R3: %s: the list was kept", told(l))
		}
	}
}

// copied tells a graph's copy.
func copied(g []api.Block) []api.Block {
	out := slices.Clone(g)
	for i := range out {
		out[i].Code = slices.Clone(out[i].Code)
	}
	return out
}

// What is handed out is memory of its own: each list in it, to the end of its room.
func TestHandedOut(t *testing.T) {
	chance := rand.New(rand.NewSource(63))
	wrong := api.Insn{Code: 0xffff, Jt: 9, Jf: 9, K: 9}
	for i := range 60 {
		l, link := grown(chance, i%6), links()[i%12]
		first, second := lowered(t, l, link), lowered(t, l, link)
		want := copied(first)
		for at := range second {
			code := second[at].Code
			_ = append(code, wrong)
			code = code[:cap(code)]
			for place := range code {
				code[place] = wrong
			}
			for other := at + 1; other < len(second); other++ {
				if !slices.Equal(second[other].Code, want[other].Code) {
					t.Fatalf("R3: %s: the blocks %d and %d share memory", told(l), at, other)
				}
			}
		}
		_ = append(second, api.Block{End: 99})
		room := second[:cap(second)]
		for at := range room {
			room[at] = api.Block{End: 99}
		}
		third := lowered(t, l, link)
		if !reflect.DeepEqual(copied(first), want) || !reflect.DeepEqual(copied(third), want) {
			t.Errorf("R3: %s: answers share memory", told(l))
		}
	}
}

func BenchmarkLower(b *testing.B) {
	l := slices.Repeat(list(word(api.OfICMP)), 230)
	l = append(l, many(229, kind(api.NodeOr))...)
	for b.Loop() {
		if _, e := lower.Lower(l, api.Link{}); e != api.OK {
			b.Fatal(e)
		}
	}
}
