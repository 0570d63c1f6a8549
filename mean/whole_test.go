package mean_test

import (
	"bytes"
	"math/rand"
	"net/netip"
	"slices"
	"testing"

	"riddle/api"
	"riddle/frame"
	"riddle/mean"
	"riddle/types"
)

// again is D once more, in another way: down from the root, part by part, and stopping where D does.
type again struct {
	api.View
	way int
	b   []byte
}

// takes tells how many parts a kind has.
func takes(kind int) int {
	switch kind {
	case api.NodeLoad, api.NodeMinus, api.NodeNot:
		return 1
	case api.NodeArith, api.NodeRel, api.NodeAnd, api.NodeOr:
		return 2
	}
	return 0
}

// partsOf tells the parts of a tree's root: a tree begins where, read backwards, nothing is lacking any more.
func partsOf(l []api.Node) [][]api.Node {
	l, root := l[:len(l)-1], l[len(l)-1]
	switch takes(root.Kind) {
	case 0:
		return nil
	case 1:
		return [][]api.Node{l}
	}
	at := len(l)
	for lacking := 1; lacking > 0; at-- {
		lacking += takes(l[at-1].Kind) - 1
	}
	return [][]api.Node{l[:at], l[at:]}
}

// wanted tells what a filter says of any bytes.
func wanted(l []api.Node, link api.Link, way int, b []byte) int {
	v, e := frame.Look(link, b)
	if e != api.OK {
		return fault
	}
	return again{v, way, b}.truth(l)
}

// wantedValue tells what a number comes to over any bytes.
func wantedValue(l []api.Node, link api.Link, way int, b []byte) (value uint32, how int) {
	v, e := frame.Look(link, b)
	if e != api.OK {
		return 0, fault
	}
	a := again{v, way, b}
	if a.lacks(l) {
		return 0, no
	}
	defer func() {
		if recover() != nil {
			value, how = 0, fault
		}
	}()
	return a.number(l), yes
}

func (a again) truth(l []api.Node) int {
	root, parts := l[len(l)-1], partsOf(l)
	switch root.Kind {
	case api.NodeNot:
		return map[int]int{no: yes, yes: no, fault: fault}[a.truth(parts[0])]
	case api.NodeAnd, api.NodeOr:
		first := a.truth(parts[0])
		if first == fault || (first == yes) == (root.Kind == api.NodeOr) {
			return first
		}
		return a.truth(parts[1])
	case api.NodeRel:
		return a.relation(l, root.Op, parts)
	}
	return a.leaf(root)
}

func (a again) relation(l []api.Node, op int, parts [][]api.Node) (how int) {
	if a.lacks(l) {
		return no
	}
	defer func() {
		if recover() != nil {
			how = fault
		}
	}()
	x, y := uint64(a.number(parts[0])), uint64(a.number(parts[1]))
	return holds([]bool{false, x == y, x != y, x < y, x < y || x == y, x > y, x > y || x == y}[op])
}

// lacks tells whether one of the loads speaks of something that is not there.
func (a again) lacks(l []api.Node) bool {
	return slices.ContainsFunc(l, func(n api.Node) bool { return n.Kind == api.NodeLoad && a.from(n.Of) < 0 })
}

// from tells where that begins of which a load speaks, below 0 if it is not there.
func (a again) from(of int) int {
	word := a.leaf(api.Node{Kind: api.NodeWord, Of: of}) == yes
	switch {
	case of == api.OfPPP:
		return 0
	case !word, of >= api.OfTCP && of <= api.OfICMP6 && a.Load == 0:
		return -1
	case of >= api.OfTCP && of <= api.OfICMP6:
		return a.Load
	}
	return a.At
}

// number reckons; at a fault it panics.
func (a again) number(l []api.Node) uint32 {
	root, parts := l[len(l)-1], partsOf(l)
	switch root.Kind {
	case api.NodeNumber:
		return root.N
	case api.NodeLen:
		return uint32(len(a.b))
	case api.NodeMinus:
		return ^a.number(parts[0]) + 1
	case api.NodeLoad:
		from := a.from(root.Of) + int(a.number(parts[0]))
		return said(a.b[from:len(a.b)][: root.Size : len(a.b)-from])
	}
	x, y := a.number(parts[0]), a.number(parts[1])
	v, ok := exactly(root.Op, x, y)
	if !ok {
		panic("a divisor 0")
	}
	return v
}

func (a again) leaf(n api.Node) int {
	switch n.Kind {
	case api.NodeWay:
		return holds(n.Side-1 == a.way)
	case api.NodeWord:
		return holds(a.word(n.Of))
	case api.NodeProto:
		return holds(a.Proto == n.N)
	case api.NodeNext:
		return holds(a.word(n.Of) && a.Next == int(n.N))
	case api.NodePort:
		return a.port(n)
	}
	if !a.word(n.Of) {
		return no
	}
	from, size := a.At+12, 4
	if n.Of == api.OfIP6 {
		from, size = a.At+8, 16
	}
	bits := n.Bits
	if n.Kind == api.NodeHost {
		bits = 8 * size
	}
	own, _ := netip.AddrFromSlice(n.Addr[:size])
	src, _ := netip.AddrFromSlice(a.b[from : from+size])
	dst, _ := netip.AddrFromSlice(a.b[from+size : from+2*size])
	net := netip.PrefixFrom(own, bits)
	return holds(n.Side != api.SideDst && net.Contains(src) || n.Side != api.SideSrc && net.Contains(dst))
}

func (a again) word(of int) bool {
	if proto, ok := numbers()[of]; ok {
		return a.Proto == proto
	}
	net := []uint32{}
	switch of {
	case api.OfMP:
		return a.Multi
	case api.OfTCP, api.OfUDP:
		net = []uint32{0x21, 0x57}
	case api.OfICMP:
		net = []uint32{0x21}
	case api.OfICMP6:
		net = []uint32{0x57}
	}
	next := map[int]int{api.OfTCP: 6, api.OfUDP: 17, api.OfICMP: 1, api.OfICMP6: 58}[of]
	return slices.Contains(net, a.Proto) && a.Next == next
}

func (a again) port(n api.Node) int {
	if a.Net == 0 || a.Load == 0 || !slices.Contains(carriers(n.Of), a.Next) {
		return no
	}
	asked := []int{}
	if n.Side != api.SideDst {
		asked = append(asked, a.Load)
	}
	if n.Side != api.SideSrc {
		asked = append(asked, a.Load+2)
	}
	for _, at := range asked {
		if at+2 > len(a.b) {
			return fault
		}
		if v := said(a.b[at : at+2]); v >= n.N && v <= n.M {
			return yes
		}
	}
	return no
}

// grower makes trees by chance, of such things as frames of these tests have.
type grower struct {
	chance *rand.Rand
	l      []api.Node
}

func (g *grower) one(some ...int) int { return some[g.chance.Intn(len(some))] }

func (g *grower) put(n api.Node) { g.l = append(g.l, n) }

func (g *grower) number(depth int) {
	pick := g.chance.Intn(9)
	switch {
	case depth > 0 && pick < 3:
		g.number(depth - 1)
		g.number(depth - 1)
		g.put(arith(1 + g.chance.Intn(api.OpShr)))
	case depth > 0 && pick == 3:
		g.number(depth - 1)
		g.put(kind(api.NodeMinus))
	case depth > 0 && pick < 7:
		g.number(depth - 1)
		g.put(load(g.one(api.OfPPP, api.OfPPP, api.OfIP, api.OfIP, api.OfIP6, 1+g.chance.Intn(api.OfIP6CP)), g.one(1, 2, 4)))
	case pick == 7:
		g.put(kind(api.NodeLen))
	default:
		g.put(number([]uint32{0, 1, 2, 4, 5, 9, 17, 20, 31, 32, 33, 255, 0x45, 1<<32 - 1, g.chance.Uint32()}[g.chance.Intn(15)]))
	}
}

func (g *grower) truth(depth int) {
	pick := g.chance.Intn(12)
	switch {
	case depth > 0 && pick < 4:
		g.truth(depth - 1)
		g.truth(depth - 1)
		g.put(kind(g.one(api.NodeAnd, api.NodeOr)))
	case depth > 0 && pick < 5:
		g.truth(depth - 1)
		g.put(kind(api.NodeNot))
	case depth > 0 && pick < 9:
		g.number(depth - 1)
		g.number(depth - 1)
		g.put(rel(1 + g.chance.Intn(api.OpGe)))
	default:
		g.put(g.leaf())
	}
}

func (g *grower) leaf() api.Node {
	side, carrier := g.chance.Intn(3), g.one(api.OfIP, api.OfIP6)
	first := uint32(g.one(0, 53, 0x102, 80, g.chance.Intn(65536)))
	switch g.chance.Intn(7) {
	case 0:
		return word(api.OfIP + g.chance.Intn(12))
	case 1:
		return goes(g.one(api.SideSrc, api.SideDst))
	case 2:
		return proto(uint32(g.one(0x21, 0x57, 0x3d, 0xc021, 0xc023, 0xc223, 0x8021, 0x8057, g.chance.Intn(65536))))
	case 3:
		return next(carrier, uint32(g.one(1, 6, 17, 58, g.chance.Intn(256))))
	case 4:
		return host(carrier, side, address(carrier, g.one(api.SideSrc, api.SideDst))...)
	case 5:
		a := address(carrier, g.one(api.SideSrc, api.SideDst))
		bits := g.chance.Intn(8*len(a) + 1)
		if bits > 0 && g.chance.Intn(2) == 0 {
			a = flipped(a, g.chance.Intn(bits))
		}
		return net(carrier, side, bits, cut(a, bits)...)
	}
	return port(g.one(api.OfAny, api.OfTCP, api.OfUDP), side, first, min(65535, first+uint32(g.one(0, 1, 30, 60000))))
}

// grown tells a filter by chance, or a number.
func grown(chance *rand.Rand, depth int, aNumber bool) []api.Node {
	for {
		g := grower{chance: chance}
		if aNumber {
			g.number(depth)
		} else {
			g.truth(depth)
		}
		l := g.l
		if aNumber {
			l = equals(l)
		}
		// A divisor may have come to be 0, and the whole too heavy.
		if _, e := types.Check(l); e == api.OK {
			return g.l
		}
	}
}

// hasPorts tells whether a load has ports in it.
func hasPorts(s saying) bool {
	return s.begin > 0 && s.begin < len(s.load) && slices.Contains(carriers(api.OfAny), s.next)
}

// frames makes frames by chance.
type frames struct {
	chance *rand.Rand
	loads  []saying
	ported []saying
}

func framesBy(chance *rand.Rand) frames {
	loads := sayings()
	ported := slices.DeleteFunc(slices.Clone(loads), func(s saying) bool { return !hasPorts(s) })
	return frames{chance, loads, ported}
}

// some tells a frame by chance, on a link on which it is well formed, or nearly so.
func (f frames) some() (api.Link, []byte) {
	chance := f.chance
	s := f.loads[chance.Intn(len(f.loads))]
	if chance.Intn(3) == 0 {
		s = f.ported[chance.Intn(len(f.ported))]
	}
	ahead := layings(s.proto)
	at := ahead[chance.Intn(len(ahead))]
	b := joined(at.ahead, s.load)
	link := at.link
	if hasPorts(s) {
		copy(b[len(at.ahead)+s.begin:], [][]byte{{0, 53, 0, 80}, {1, 2, 0, 53}, {0, 0, 0, 0}}[chance.Intn(3)])
	}
	switch chance.Intn(12) {
	case 0:
		b = b[:chance.Intn(len(b)+1)]
	case 1:
		b[chance.Intn(len(b))] = byte(chance.Intn(256))
	case 2:
		link = links()[chance.Intn(12)]
	case 3:
		b = behind(b, chance.Intn(100))
	case 4:
		b = b[:max(0, len(b)-chance.Intn(9))]
	}
	return link, b
}

func TestAgainstAnotherReckoning(t *testing.T) {
	chance := rand.New(rand.NewSource(14))
	some := framesBy(chance)
	filters, values := map[[2]int]int{}, [3]int{}
	for i := range 40000 {
		link, b := some.some()
		way := chance.Intn(2)
		l := grown(chance, i%6, false)
		want := wanted(l, link, way, b)
		says(t, l, link, way, b, want)
		filters[[2]int{l[len(l)-1].Kind, want}]++
		sum := grown(chance, i%6, true)
		value, how := wantedValue(sum, link, way, b)
		comesTo(t, sum, link, b, value, how)
		values[how]++
	}
	for kind := api.NodeRel; kind <= api.NodePort; kind++ {
		for how := range 3 {
			if got := filters[[2]int{kind, how}]; got < 30 {
				t.Errorf("only %d filters of the kind %d were %s", got, kind, judgedAs(how))
			}
		}
	}
	for how, got := range values {
		if got < 3000 {
			t.Errorf("only %d numbers were %s", got, judgedAs(how))
		}
	}
}

// hasWay tells whether a filter asks for the way.
func hasWay(l []api.Node) bool {
	return slices.ContainsFunc(l, func(n api.Node) bool { return n.Kind == api.NodeWay })
}

func TestLaws(t *testing.T) {
	chance := rand.New(rand.NewSource(144))
	some := framesBy(chance)
	faults := 0
	for i := range 8000 {
		link, b := some.some()
		way := chance.Intn(2)
		a, c := grown(chance, i%5, false), grown(chance, i%4, false)
		how, _ := mean.Judge(a, link, way, b)
		says(t, not(not(a)), link, way, b, how)
		says(t, not(a), link, way, b, map[int]int{no: yes, yes: no, fault: fault}[how])
		all, _ := mean.Judge(and(a, c), link, way, b)
		says(t, not(or(not(a), not(c))), link, way, b, all)
		any, _ := mean.Judge(or(a, c), link, way, b)
		says(t, not(and(not(a), not(c))), link, way, b, any)
		if how == fault {
			faults++
			says(t, and(a, c), link, way, b, fault)
			says(t, or(a, c), link, way, b, fault)
		}
		if !hasWay(a) {
			says(t, a, link, 1-way, b, how)
		}
	}
	if faults < 500 {
		t.Errorf("only %d faults", faults)
	}
}

// A filter that is well formed on the plain link, and no piece elsewhere, is judged alike on every link.
func TestEveryLink(t *testing.T) {
	chance := rand.New(rand.NewSource(41))
	loads := sayings()
	for i := range 3000 {
		s := loads[chance.Intn(len(loads))]
		b := joined(fromHex("ff03"), []byte{byte(s.proto >> 8), byte(s.proto)}, s.load)
		l := grown(chance, i%5, false)
		want := wanted(l, plain(), i%2, b)
		for _, link := range links() {
			says(t, l, link, i%2, b, want)
		}
	}
}

func TestHandedIn(t *testing.T) {
	for _, s := range []string{"ip", "ip and not (udp or tcp)", "ip[1+2:2] != -len", "src net 0.0.0.0/0 or host 1::2", "udp[3] = 54 and port 54", "len / ip[1] = 0"} {
		l := source(t, s)
		all := append(slices.Clone(l), kind(api.NodeNot), number(9), kind(99))
		b := append(f(), 0xff, 1, 2, 3)
		wantList, wantBytes := slices.Clone(all), slices.Clone(b)
		for range 2 {
			for _, way := range ways() {
				says(t, all[:len(l)], plain(), way, b[:28], wanted(l, plain(), way, f()))
			}
		}
		if !slices.Equal(all, wantList) || !bytes.Equal(b, wantBytes) {
			t.Errorf("R3: %q: what was handed in was changed", s)
		}
	}
	for _, s := range []string{"5", "len + 1", "ip[9] * 2", "tcp[0]", "ppp[28]", "ip"} {
		l := source(t, s)
		// The spare room is as great as what is put behind a number to make it a filter.
		all := append(slices.Clone(l), kind(api.NodeNot), number(9), kind(99))
		b := append(f(), 0xff, 1, 2, 3)
		wantList, wantBytes := slices.Clone(all), slices.Clone(b)
		first, how, e := mean.Value(l, plain(), 0, f())
		if v, h, err := mean.Value(all[:len(l)], plain(), 0, b[:28]); v != first || h != how || err != e {
			t.Errorf("R3: %q: %d, %d, %d; want %d, %d, %d", s, v, h, err, first, how, e)
		}
		if !slices.Equal(all, wantList) || !bytes.Equal(b, wantBytes) {
			t.Errorf("R3: %q: what was handed in was changed", s)
		}
	}
}

// What stands behind the bytes in their memory is not of the frame.
func TestBytesBehindTheFrame(t *testing.T) {
	b := append(f(), make([]byte, 40)...)
	for n := range 29 {
		for _, s := range []string{"ppp[len] = 0", "ip[20] = 0", "udp[0:4] = 3473462", "dst port 54", "src host 1.2.3.4", "ip or not ip", "ppp[24:4] = 3473462"} {
			says(t, source(t, s), plain(), 0, b[:n], wanted(source(t, s), plain(), 0, slices.Clone(b[:n:n])))
		}
	}
}

func TestNilAndEmpty(t *testing.T) {
	for _, link := range links() {
		saysBothWays(t, list(ip()), link, nil, fault)
		saysBothWays(t, list(ip()), link, []byte{}, fault)
	}
	refuses(t, nil, plain(), 0, f(), api.ErrMeanTree)
	refuses(t, []api.Node{}, plain(), 0, f(), api.ErrMeanTree)
	refusesValue(t, []api.Node{}, plain(), 0, f(), api.ErrMeanTree)
}

// The greatest filters over the greatest frames end soon, however they are nested.
func TestGreatFilters(t *testing.T) {
	b := behind(f(), api.MaxFrame-28)
	left, right := list(ip()), slices.Repeat(list(ip()), 230)
	for range 229 {
		left = append(left, ip(), kind(api.NodeAnd))
		right = append(right, kind(api.NodeOr))
	}
	sums := slices.Concat(slices.Repeat(list(number(1)), 425), slices.Repeat(list(arith(api.OpAdd)), 424))
	saysBothWays(t, left, plain(), b, yes)
	saysBothWays(t, right, plain(), b, yes)
	comesTo(t, sums, plain(), b, 425, yes)
	loads := list(number(0))
	for range 95 {
		loads = append(loads, load(api.OfIP, 1), number(0x45), arith(api.OpXor))
	}
	comesTo(t, loads, plain(), b, 0, yes)
}

func BenchmarkJudge(b *testing.B) {
	l := append(list(ip()), slices.Repeat(list(ip(), kind(api.NodeOr)), 229)...)
	for b.Loop() {
		if _, e := mean.Judge(l, api.Link{}, 0, f()); e != api.OK {
			b.Fatal(e)
		}
	}
}
