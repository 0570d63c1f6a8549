package show_test

import (
	"math/rand"
	"slices"
	"strings"
	"testing"

	"riddle/api"
	"riddle/parse"
	"riddle/show"
	"riddle/types"
)

// grower makes filters by chance.
type grower struct {
	chance *rand.Rand
	l      []api.Node
}

func (g *grower) one(some ...int) int { return some[g.chance.Intn(len(some))] }

func (g *grower) put(n api.Node) { g.l = append(g.l, n) }

func (g *grower) number(depth int) {
	pick := g.chance.Intn(8)
	switch {
	case depth > 0 && pick < 4:
		g.number(depth - 1)
		g.number(depth - 1)
		g.put(arith(1 + g.chance.Intn(api.OpShr)))
	case depth > 0 && pick == 4:
		g.number(depth - 1)
		g.put(kind(api.NodeMinus))
	case depth > 0 && pick == 5:
		g.number(depth - 1)
		g.put(load(1+g.chance.Intn(api.OfIP6CP), g.one(1, 2, 4)))
	case pick == 6:
		g.put(kind(api.NodeLen))
	default:
		g.put(number([]uint32{0, 1, 9, 65536, 1<<32 - 1, g.chance.Uint32()}[g.chance.Intn(6)]))
	}
}

func (g *grower) truth(depth int) {
	pick := g.chance.Intn(10)
	switch {
	case depth > 0 && pick < 4:
		g.truth(depth - 1)
		g.truth(depth - 1)
		g.put(kind(g.one(api.NodeAnd, api.NodeOr)))
	case depth > 0 && pick < 6:
		g.truth(depth - 1)
		g.put(kind(api.NodeNot))
	case depth > 0 && pick < 9:
		g.number(depth - 1)
		g.number(depth - 1)
		g.put(rel(1 + g.chance.Intn(api.OpGe)))
	default:
		g.put(g.leaf())
	}
}

func (g *grower) bytes(many int) []byte {
	out := make([]byte, many)
	for i := range out {
		out[i] = byte(g.one(0, 0, 0, 1, 255, g.chance.Intn(256)))
	}
	return out
}

func (g *grower) leaf() api.Node {
	side, carrier := g.chance.Intn(3), g.one(api.OfIP, api.OfIP6)
	size := map[int]int{api.OfIP: 4, api.OfIP6: 16}[carrier]
	first := uint32(g.chance.Intn(65536))
	switch g.chance.Intn(7) {
	case 0:
		return word(api.OfIP + g.chance.Intn(12))
	case 1:
		return way(g.one(api.SideSrc, api.SideDst))
	case 2:
		return proto(first)
	case 3:
		return next(carrier, first%256)
	case 4:
		return host(carrier, side, g.bytes(size)...)
	case 5:
		whole := g.chance.Intn(size + 1)
		return net(carrier, side, 8*whole, g.bytes(whole)...)
	}
	return port(g.one(api.OfAny, api.OfTCP, api.OfUDP), side, first, first+uint32(g.chance.Intn(int(65536-first))))
}

// grown tells a filter by chance.
func grown(chance *rand.Rand, depth int) []api.Node {
	for {
		g := grower{chance: chance}
		g.truth(depth)
		// A divisor may have come to be 0, and a great one to be too heavy.
		if _, e := types.Check(g.l); e == api.OK {
			return g.l
		}
	}
}

// takes tells how many parts a kind has.
func takes(kind int) int {
	switch kind {
	case api.NodeLoad, api.NodeMinus, api.NodeNot:
		return 1
	case api.NodeArith, api.NodeRel, api.NodeAnd, api.NodeOr:
		return 2
	}
	return 0
}

// partsOf tells the parts of a tree's root: a tree begins where, read backwards, nothing is lacking any more.
func partsOf(l []api.Node) [][]api.Node {
	l, root := l[:len(l)-1], l[len(l)-1]
	switch takes(root.Kind) {
	case 0:
		return nil
	case 1:
		return [][]api.Node{l}
	}
	at := len(l)
	for lacking := 1; lacking > 0; at-- {
		lacking += takes(l[at-1].Kind) - 1
	}
	return [][]api.Node{l[:at], l[at:]}
}

var allOperators = operators()

// written tells a tree as a row of the grammar makes it: as one of its own, as one of the next row, or at last in brackets. (In full: at once in brackets.)
func written(t *testing.T, l []api.Node, row int, full bool) string {
	root := l[len(l)-1]
	parts := partsOf(l)
	if len(parts) == 0 {
		return leafText(t, root)
	}
	stronger := func(row int) int {
		if full {
			return rowPart
		}
		return row
	}
	for ; row < rowPart; row++ {
		switch {
		case row == rowNot && root.Kind == api.NodeNot:
			return "not " + written(t, parts[0], stronger(rowNot), full)
		case row == rowMinus && root.Kind == api.NodeMinus:
			return "-" + written(t, parts[0], stronger(rowMinus), full)
		}
		for _, o := range allOperators {
			if o.row == row && o.node == root {
				left := row
				if row == rowRel {
					left++
				}
				return written(t, parts[0], stronger(left), full) + " " + o.text + " " + written(t, parts[1], stronger(row+1), full)
			}
		}
	}
	if root.Kind == api.NodeLoad {
		end := map[int]string{1: "]", 2: ":2]", 4: ":4]"}[root.Size]
		return nameOf(root.Of) + "[" + written(t, parts[0], rowOr, full) + end
	}
	return "(" + written(t, l, rowOr, full) + ")"
}

func nameOf(of int) string {
	for name, other := range names() {
		if other == of {
			return name
		}
	}
	return ""
}

// leafText tells the text that parse reads as a leaf; how leaves are written is held to texts elsewhere.
func leafText(t *testing.T, n api.Node) string {
	l := list(n)
	if n.Kind == api.NodeNumber || n.Kind == api.NodeLen {
		l = append(l, number(1), rel(api.OpEq))
	}
	text, e := show.Show(l)
	if back, _, _, wrong := parse.Parse(text); e != api.OK || wrong != api.OK || !slices.Equal(back, l) {
		t.Fatalf("P13.2: %s: %q, %d, is read as %s", told(l), text, e, told(back))
	}
	return strings.TrimSuffix(text, " = 1")
}

// agrees holds both texts of a filter to how the grammar writes it; it tells both errors.
func agrees(t *testing.T, l []api.Node) (short, full api.Errno) {
	t.Helper()
	var told [2]api.Errno
	for i, call := range []func([]api.Node) (string, api.Errno){show.Show, show.Full} {
		name := []string{"Show", "Full"}[i]
		text := written(t, l, rowOr, i == 1)
		if len(text) >= api.MaxSource {
			t.Errorf("P13.1: %s has %d bytes", name, len(text))
		}
		if _, _, _, told[i] = parse.Parse(text); told[i] == api.OK {
			one(t, call, name, l, text)
		} else {
			told[i] = api.ErrShowDeep
			oneRefuses(t, call, name, l, told[i])
		}
	}
	return told[0], told[1]
}

func TestFilters(t *testing.T) {
	chance := rand.New(rand.NewSource(13))
	for i := range 4000 {
		if short, full := agrees(t, grown(chance, 1+i%7)); short != api.OK || full != api.OK {
			t.Errorf("P13.1: %d, %d", short, full)
		}
	}
}

// tower tells a deep list: steps around a number, a comparison of it, and steps around that; the more of them are minuses and nots, the narrower it is.
func tower(chance *rand.Rand) []api.Node {
	l := list(number(3))
	narrow := 3 + chance.Intn(12)
	for range chance.Intn(160) {
		switch chance.Intn(narrow) {
		case 0:
			l = append(slices.Insert(l, 0, number(5)), arith(1+chance.Intn(api.OpShr)))
		case 1:
			l = append(l, number(5), arith(1+chance.Intn(api.OpShr)))
		case 2:
			l = append(l, load(1+chance.Intn(api.OfIP6CP), 2))
		default:
			l = append(l, kind(api.NodeMinus))
		}
	}
	l = append(l, kind(api.NodeLen), rel(1+chance.Intn(api.OpGe)))
	for range chance.Intn(160) {
		switch chance.Intn(narrow) {
		case 0, 1:
			l = append(slices.Insert(l, 0, way(1)), kind(api.NodeAnd+chance.Intn(2)))
		case 2:
			l = append(l, way(2), kind(api.NodeAnd+chance.Intn(2)))
		default:
			l = append(l, kind(api.NodeNot))
		}
	}
	return l
}

// Deep filters, in which it is parse that tells whether the text is too deep.
func TestTowers(t *testing.T) {
	chance := rand.New(rand.NewSource(31))
	seen := map[[2]api.Errno]int{}
	for range 1000 {
		l := tower(chance)
		if _, e := types.Check(l); e != api.OK {
			refuses(t, l, api.ErrShowTree)
			continue
		}
		short, full := agrees(t, l)
		seen[[2]api.Errno{short, full}]++
	}
	for _, both := range [][2]api.Errno{{api.OK, api.OK}, {api.OK, api.ErrShowDeep}, {api.ErrShowDeep, api.ErrShowDeep}} {
		if seen[both] < 50 {
			t.Errorf("only %d filters were %d", seen[both], both)
		}
	}
}

// pairs tells the places of brackets that belong together.
func pairs(text string) [][2]int {
	var open []int
	var out [][2]int
	for at := range len(text) {
		switch text[at] {
		case '(':
			open = append(open, at)
		case ')':
			out = append(out, [2]int{open[len(open)-1], at})
			open = open[:len(open)-1]
		}
	}
	return out
}

// No pair of brackets in Show can be left out; in Full just those that are not in Show.
func TestNoNeedlessBrackets(t *testing.T) {
	chance := rand.New(rand.NewSource(5))
	left := 0
	for range 1500 {
		l := grown(chance, 5)
		for i, call := range []func([]api.Node) (string, api.Errno){show.Show, show.Full} {
			text, _ := call(l)
			needed := 0
			for _, p := range pairs(text) {
				without := text[:p[0]] + text[p[0]+1:p[1]] + text[p[1]+1:]
				back, _, _, e := parse.Parse(without)
				if e != api.OK || !slices.Equal(back, l) {
					needed++
				} else if i == 0 {
					t.Errorf("P13.1: Show of %s: %q, but so is %q", told(l), text, without)
				}
			}
			if short, _ := show.Show(l); needed != strings.Count(short, "(") {
				t.Errorf("P13.1: %s: %d pairs are needed in %q, but Show is %q", told(l), needed, text, short)
			}
			left += needed
		}
	}
	if left < 1000 {
		t.Errorf("only %d pairs were needed", left)
	}
}

// In Full each node stands in brackets but a part by itself, the root and an index.
func TestAllBrackets(t *testing.T) {
	chance := rand.New(rand.NewSource(6))
	for range 1500 {
		l := grown(chance, 5)
		text, _ := show.Full(l)
		want := -1
		if len(l) == 1 {
			want = 0
		}
		for at, n := range l {
			byItself := n.Kind <= api.NodeLoad || n.Kind >= api.NodeWay
			if !byItself {
				want++
			}
			if n.Kind == api.NodeLoad && l[at-1].Kind > api.NodeLoad {
				want--
			}
		}
		if got := strings.Count(text, "("); got != want {
			t.Errorf("P13.1: Full of %s: %q has %d pairs, want %d", told(l), text, got, want)
		}
	}
}

// loosened tells a text with needless brackets around words and numbers, other signs, and more blanks or fewer.
func loosened(chance *rand.Rand, text string) string {
	var out strings.Builder
	for _, piece := range strings.SplitAfter(text, " ") {
		word := strings.TrimSuffix(piece, " ")
		if signs, ok := map[string][]string{"and": {"and ", "&&"}, "or": {" or ", "||"}, "not": {"! ", "!", "not\t"}, "=": {"=", "==", " = "}}[word]; ok {
			out.WriteString(" " + signs[chance.Intn(len(signs))] + " ")
			continue
		}
		out.WriteString(piece + strings.Repeat([]string{" ", "\t", "\n", "\r"}[chance.Intn(4)], chance.Intn(3)))
	}
	return strings.Repeat("(", chance.Intn(4)) + out.String()
}

// Whatever way a filter is written in, Show is one text, and Show of that is the same.
func TestSources(t *testing.T) {
	chance := rand.New(rand.NewSource(77))
	for i := range 2000 {
		l := grown(chance, 1+i%6)
		short, _ := show.Show(l)
		full, _ := show.Full(l)
		for _, s := range []string{short, full, "(" + short + ")", "( (\t" + full + " )\n) ", loosened(chance, short), loosened(chance, full)} {
			s += strings.Repeat(")", strings.Count(s, "(")-strings.Count(s, ")"))
			again, e := show.Show(source(t, s))
			if e != api.OK || again != short {
				t.Errorf("P13.2: Show of %q: %q, %d; want %q", s, again, e, short)
			}
		}
	}
}

func TestSourcesWithNeedlessThings(t *testing.T) {
	for _, x := range [][2]string{
		{"((ip))", "ip"}, {"\tip\n", "ip"}, {"(((1)))=((2))", "1 = 2"}, {"!ip", "not ip"}, {"!(!(ip))", "not not ip"}, {"! ! ip&&udp", "not not ip and udp"}, {"ip||udp&&tcp", "ip or udp and tcp"},
		{"((ip) or (udp)) or ((tcp))", "ip or udp or tcp"}, {"(ip&&udp)||(tcp&&mp)", "ip and udp or tcp and mp"}, {"1==0x10", "1 = 16"}, {"0x0ff>=0x007", "255 >= 7"}, {"1+(2*3)=(1)", "1 + 2 * 3 = 1"}, {"(-(1))=-((2))", "-1 = -2"},
		{"((1+2)+3)=1", "1 + 2 + 3 = 1"}, {"ip [ ( 0 ) : 1 ] = 1", "ip[0] = 1"}, {"ip[((1+2))]=1", "ip[1 + 2] = 1"}, {"(ip[0:0x2])=1", "ip[0:2] = 1"},
		{"portrange 5 - 5", "port 5"}, {"portrange 5 - 6", "portrange 5-6"}, {"tcp\nsrc portrange 0x5 -5", "tcp src port 5"}, {"net 10.0.0.0 / 8", "net 10.0.0.0/8"}, {"host 0:0:0:0:0:0:0:1", "host ::1"}, {"src host fe80:0::", "src host fe80::"},
		{"not(ip)or(udp)", "not ip or udp"}, {"not(ip or udp)", "not (ip or udp)"}, {"(not ip)and(not udp)", "not ip and not udp"}, {"(1=2)and(3=4)", "1 = 2 and 3 = 4"}, {"not(1=2)", "not 1 = 2"},
		{"ip proto 0x6", "ip proto 6"}, {"proto\t33", "proto 33"}, {"(1<<2)<<(3)=1", "1 << 2 << 3 = 1"}, {"len--1=1", "len - -1 = 1"}, {"len-1=1", "len - 1 = 1"},
	} {
		short, e := show.Show(source(t, x[0]))
		if e != api.OK || short != x[1] {
			t.Errorf("P13.2: Show of %q: %q, %d; want %q", x[0], short, e, x[1])
		}
		if again, e := show.Show(source(t, short)); e != api.OK || again != short {
			t.Errorf("P13.2: Show of %q: %q, %d", short, again, e)
		}
	}
}

// What parse took is not too deep, however near the bound it is.
func TestSourcesAsDeepAsMayBe(t *testing.T) {
	for _, s := range []string{
		repeat("(", 200) + "ip" + repeat(")", 200), repeat("!", 200) + "ip", repeat("-", 200) + "1=1", repeat("!(", 100) + "ip" + repeat(")", 100), repeat("-(", 100) + "1" + repeat(")", 100) + "=1",
		repeat("ip[-", 100) + "1" + repeat("]", 100) + "=1", repeat("ip[(", 100) + "1" + repeat(")]", 100) + "=1", repeat("ip[", 100) + repeat("-", 100) + "1" + repeat("]", 100) + "=1",
		repeat("inbound or (", 200) + "inbound" + repeat(")", 200), repeat("(", 200) + "inbound" + repeat(" or inbound)", 200), repeat("(inbound and ", 200) + "inbound" + repeat(")", 200),
		repeat("1-(", 200) + "1" + repeat(")", 200) + "=1", repeat("(", 200) + "1" + repeat("-1)", 200) + "=1", repeat("(", 199) + "1" + repeat("*(1))", 190) + repeat(")", 9) + "=1",
		repeat("!(inbound&&", 100) + "inbound" + repeat(")", 100), repeat("!(", 100) + "inbound" + repeat(" or inbound)", 100), repeat("!", 199) + "(1=2)", repeat("!", 199) + "-1=-2", repeat("(", 199) + "(ip)or(udp)" + repeat(")", 199),
		repeat("-(1+", 100) + "1" + repeat(")", 100) + "=1", repeat("ip[1+(", 80) + "1" + repeat(")]", 80) + "=1", repeat("!", 100) + repeat("ip[", 100) + "1" + repeat("]", 100) + "=1",
	} {
		l := source(t, s)
		short, e := show.Show(l)
		if e != api.OK {
			t.Errorf("P13.2: Show of %.80q: %d", s, e)
			continue
		}
		if again, e := show.Show(source(t, short)); e != api.OK || again != short || !slices.Equal(source(t, short), l) {
			t.Errorf("P13.2: Show of %.80q: %.80q, %d", short, again, e)
		}
		agrees(t, l)
	}
}

// changes tells a node with something else in one field.
func changes(n api.Node) []api.Node {
	var out []api.Node
	for _, v := range []int{-1, 0, 1, 2, 3, 4, 5, 6, 7, 8, 9, 10, 11, 12, 13, 14, 15, 16, 17, 32, 128, 255, 65535} {
		for _, set := range []func(*api.Node){
			func(n *api.Node) { n.Kind = v }, func(n *api.Node) { n.Op = v }, func(n *api.Node) { n.N = uint32(v) }, func(n *api.Node) { n.M = uint32(v) }, func(n *api.Node) { n.Size = v },
			func(n *api.Node) { n.Of = v }, func(n *api.Node) { n.Side = v }, func(n *api.Node) { n.Bits = v },
			func(n *api.Node) { n.Addr[0] = byte(v) }, func(n *api.Node) { n.Addr[3] = byte(v) }, func(n *api.Node) { n.Addr[4] = byte(v) }, func(n *api.Node) { n.Addr[15] = byte(v) },
		} {
			other := n
			set(&other)
			if other != n {
				out = append(out, other)
			}
		}
	}
	return out
}

// No two filters have one text, neither of Show nor of Full, nor is Show of one Full of another.
func TestOneTextEach(t *testing.T) {
	texts := map[string]string{}
	holds := func(l []api.Node) {
		name := told(l)
		for _, call := range []func([]api.Node) (string, api.Errno){show.Show, show.Full} {
			text, e := call(l)
			if e != api.OK {
				continue
			}
			if other, seen := texts[text]; seen && other != name {
				t.Errorf("P13.2: %s and %s: %q", name, other, text)
			}
			texts[text] = name
		}
	}
	for _, s := range []string{
		"port 5", "tcp src portrange 1-9", "udp dst port 0", "src net 10.0.0.0/8", "net ::/0", "dst host 1.2.3.4", "host 1::2", "ip proto 6", "proto 33", "ip", "inbound",
		"ip[2:2] = 1", "-len + 1 < ip[0] - 3", "1 - 2 - 3 = 0", "1 - (2 - 3) = 0", "not ip and not (udp or tcp)",
	} {
		l := source(t, s)
		holds(l)
		for at := range l {
			for _, n := range changes(l[at]) {
				other := slices.Clone(l)
				other[at] = n
				holds(other)
			}
		}
	}
	var all func(l []api.Node, left int)
	all = func(l []api.Node, left int) {
		holds(l)
		if left > 0 {
			for _, n := range list(number(1), ip(), kind(api.NodeMinus), kind(api.NodeNot), arith(api.OpSub), arith(api.OpMul), rel(api.OpLt), kind(api.NodeAnd), kind(api.NodeOr)) {
				all(append(slices.Clone(l), n), left-1)
			}
		}
	}
	all(nil, 4)
	if len(texts) < 500 {
		t.Errorf("only %d texts", len(texts))
	}
}

func TestHandedIn(t *testing.T) {
	for _, s := range []string{"ip", "ip and not (udp or tcp)", "ip[1+2:2] != -len", "src net 10.0.0.0/8 or host 1::2", "len"} {
		l := source(t, s)
		short, e := show.Show(l)
		full, _ := show.Full(l)
		all := append(slices.Clone(l), kind(api.NodeNot), number(9), kind(99))
		want := slices.Clone(all)
		for range 2 {
			gotShort, eShort := show.Show(all[:len(l)])
			gotFull, eFull := show.Full(all[:len(l)])
			if gotShort != short || gotFull != full || eShort != e || eFull != e {
				t.Errorf("R3: %q: %q, %d, %q, %d; want %q, %q, %d", s, gotShort, eShort, gotFull, eFull, short, full, e)
			}
		}
		if !slices.Equal(all, want) {
			t.Errorf("R3: %q: what was handed in was changed", s)
		}
	}
}

func TestHandedOut(t *testing.T) {
	l := source(t, "ip[1+2:2] != -len and not (udp or src host 1.2.3.4)")
	short, _ := show.Show(l)
	full, _ := show.Full(l)
	keptShort, keptFull := strings.Clone(short), strings.Clone(full)
	for i := range l {
		l[i] = kind(77)
	}
	show.Show(source(t, "port 5 or port 6"))
	show.Full(source(t, "port 5 or port 6"))
	show.Show(l)
	show.Full(nil)
	if short != keptShort || full != keptFull {
		t.Errorf("R3: later calls changed an answer: %q, %q", short, full)
	}
}

func BenchmarkShow(b *testing.B) {
	l := append(list(ip()), slices.Repeat(list(ip(), kind(api.NodeOr)), 229)...)
	for b.Loop() {
		if _, e := show.Show(l); e != api.OK {
			b.Fatal(e)
		}
	}
}
