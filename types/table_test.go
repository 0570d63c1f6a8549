package types_test

import (
	"math/big"
	"slices"
	"testing"

	"riddle/api"
	"riddle/types"
)

// unused stands for the greatest number of a field that a kind does not use.
const unused = -1

// row is what the chapter's table says of a kind.
type row struct {
	kind         int
	parts        string // n for a number, t for a truth
	is           string
	op, of, side []int // what may stand there; none: not used
	size         []int
	n, m, bits   int64 // the greatest that may stand there
	addr         bool
	weight, six  int // six: of OfIP6
}

func from(least, most int) []int {
	var out []int
	for v := least; v <= most; v++ {
		out = append(out, v)
	}
	return out
}

func table() []row {
	const any = 1<<32 - 1
	both, sides := []int{api.OfIP, api.OfIP6}, from(0, 2)
	return []row{
		{api.NodeNumber, "", "n", nil, nil, nil, nil, any, unused, unused, false, 1, 1},
		{api.NodeLen, "", "n", nil, nil, nil, nil, unused, unused, unused, false, 2, 2},
		{api.NodeLoad, "n", "n", nil, from(api.OfPPP, api.OfIP6CP), nil, []int{1, 2, 4}, unused, unused, unused, false, 24, 24},
		{api.NodeArith, "nn", "n", from(api.OpAdd, api.OpShr), nil, nil, nil, unused, unused, unused, false, 6, 6},
		{api.NodeMinus, "n", "n", nil, nil, nil, nil, unused, unused, unused, false, 2, 2},
		{api.NodeRel, "nn", "t", from(api.OpEq, api.OpGe), nil, nil, nil, unused, unused, unused, false, 8, 8},
		{api.NodeAnd, "tt", "t", nil, nil, nil, nil, unused, unused, unused, false, 1, 1},
		{api.NodeOr, "tt", "t", nil, nil, nil, nil, unused, unused, unused, false, 1, 1},
		{api.NodeNot, "t", "t", nil, nil, nil, nil, unused, unused, unused, false, 1, 1},
		{api.NodeWay, "", "t", nil, nil, []int{api.SideSrc, api.SideDst}, nil, unused, unused, unused, false, 6, 6},
		{api.NodeWord, "", "t", nil, from(api.OfIP, api.OfMP), nil, nil, unused, unused, unused, false, 12, 12},
		{api.NodeProto, "", "t", nil, nil, nil, nil, 65535, unused, unused, false, 8, 8},
		{api.NodeNext, "", "t", nil, both, nil, nil, 255, unused, unused, false, 16, 16},
		{api.NodeHost, "", "t", nil, both, sides, nil, unused, unused, unused, true, 24, 72},
		{api.NodeNet, "", "t", nil, both, sides, nil, unused, unused, 128, true, 32, 80},
		{api.NodePort, "", "t", nil, []int{api.OfAny, api.OfTCP, api.OfUDP}, sides, nil, 65535, 65535, unused, false, 40, 40},
	}
}

var rows = table()

func rowOf(kind int) (row, bool) {
	for _, r := range rows {
		if r.kind == kind {
			return r, true
		}
	}
	return row{}, false
}

// sound tells a node of a kind that has no fault by itself.
func sound(kind int) api.Node {
	r, _ := rowOf(kind)
	n := api.Node{Kind: kind}
	for _, x := range []struct {
		field *int
		may   []int
	}{{&n.Op, r.op}, {&n.Of, r.of}, {&n.Side, r.side}, {&n.Size, r.size}} {
		if len(x.may) > 0 {
			*x.field = x.may[0]
		}
	}
	return n
}

// named tells whether a field's number is one of those that may stand there.
func named(v int, may []int) bool {
	return len(may) == 0 && v == 0 || slices.Contains(may, v)
}

// pointOne tells whether a node's own fields are such that it is ErrTypeTree.
func (r row) pointOne(n api.Node) bool {
	if !named(n.Op, r.op) || !named(n.Of, r.of) || !named(n.Side, r.side) {
		return true
	}
	if len(r.size) == 0 && n.Size != 0 || r.n == unused && n.N != 0 || r.m == unused && n.M != 0 || r.bits == unused && n.Bits != 0 {
		return true
	}
	for i, b := range n.Addr {
		if b != 0 && (!r.addr || i >= 4 && n.Of == api.OfIP) {
			return true
		}
	}
	return false
}

// pointFour tells whether one of a node's numbers is such that it is ErrTypeRange.
func (r row) pointFour(n api.Node) bool {
	size := len(r.size) > 0 && !slices.Contains(r.size, n.Size)
	far := r.n != unused && int64(n.N) > r.n || r.m != unused && (int64(n.M) > r.m || n.N > n.M)
	bits := r.bits != unused && (n.Bits < 0 || n.Bits > 128 || n.Of == api.OfIP && n.Bits > 32)
	return size || far || bits
}

// pointFive tells whether a net's address has a bit behind its first ones.
func (r row) pointFive(n api.Node) bool {
	for bit := max(n.Bits, 0); r.bits != unused && bit < 128; bit++ {
		if n.Addr[bit/8]&(128>>(bit%8)) != 0 {
			return true
		}
	}
	return false
}

// begin tells where the tree begins whose root is the list's last node; -1, if there is none.
func begin(l []api.Node) int {
	if len(l) == 0 {
		return -1
	}
	r, known := rowOf(l[len(l)-1].Kind)
	if !known {
		return -1
	}
	at := len(l) - 1
	for range r.parts {
		if at = begin(l[:at]); at < 0 {
			return -1
		}
	}
	return at
}

// partsOf tells the parts that the list's last node finds, of which it needs so many; false, if it does not find them.
func partsOf(l []api.Node, need int) ([][]api.Node, bool) {
	var out [][]api.Node
	end := len(l) - 1
	for range need {
		at := begin(l[:end])
		if at < 0 {
			return nil, false
		}
		out = slices.Insert(out, 0, l[at:end])
		end = at
	}
	return out, true
}

// valueOf reckons a constant with whole numbers of any size; false, if the tree is none.
func valueOf(l []api.Node) (*big.Int, bool) {
	n := l[len(l)-1]
	r, _ := rowOf(n.Kind)
	parts, _ := partsOf(l, len(r.parts))
	var of []*big.Int
	for _, part := range parts {
		v, ok := valueOf(part)
		if !ok {
			return nil, false
		}
		of = append(of, v)
	}
	switch n.Kind {
	case api.NodeNumber:
		return new(big.Int).SetUint64(uint64(n.N)), true
	case api.NodeMinus:
		return cut(new(big.Int).Neg(of[0])), true
	case api.NodeArith:
		return reckoned(n.Op, of[0], of[1])
	}
	return nil, false
}

func cut(v *big.Int) *big.Int { return new(big.Int).And(v, big.NewInt(1<<32-1)) }

func reckoned(op int, a, b *big.Int) (*big.Int, bool) {
	out := new(big.Int)
	switch op {
	case api.OpAdd:
		return cut(out.Add(a, b)), true
	case api.OpSub:
		return cut(out.Sub(a, b)), true
	case api.OpMul:
		return cut(out.Mul(a, b)), true
	case api.OpAnd:
		return out.And(a, b), true
	case api.OpOr:
		return out.Or(a, b), true
	case api.OpXor:
		return out.Xor(a, b), true
	case api.OpShl, api.OpShr:
		if b.Cmp(big.NewInt(31)) > 0 {
			return out, true
		}
		if op == api.OpShr {
			return out.Rsh(a, uint(b.Uint64())), true
		}
		return cut(out.Lsh(a, uint(b.Uint64()))), true
	}
	if b.Sign() == 0 {
		return nil, false
	}
	if op == api.OpDiv {
		return out.Quo(a, b), true
	}
	return out.Rem(a, b), true
}

// pointOf tells the first point that the list's last node has, all nodes ahead of which have none.
func pointOf(l []api.Node) api.Errno {
	n := l[len(l)-1]
	r, known := rowOf(n.Kind)
	if !known {
		return api.ErrTypeTree
	}
	parts, found := partsOf(l, len(r.parts))
	if !found || r.pointOne(n) {
		return api.ErrTypeTree
	}
	for i, part := range parts {
		got, _ := rowOf(part[len(part)-1].Kind)
		if must := r.parts[i : i+1]; got.is != must {
			return map[string]api.Errno{"n": api.ErrTypeNumber, "t": api.ErrTypeBool}[must]
		}
	}
	if n.Kind == api.NodeArith && (n.Op == api.OpDiv || n.Op == api.OpMod) {
		if v, ok := valueOf(parts[1]); ok && v.Sign() == 0 {
			return api.ErrTypeZero
		}
	}
	if r.pointFour(n) {
		return api.ErrTypeRange
	}
	if r.pointFive(n) {
		return api.ErrTypeHost
	}
	return api.OK
}

// firstPoint tells the first node that has a point, and which; the list's length and OK, if none has one.
func firstPoint(l []api.Node) (int, api.Errno) {
	for at := range l {
		if e := pointOf(l[:at+1]); e != api.OK {
			return at, e
		}
	}
	return len(l), api.OK
}

func weighed(l []api.Node) int {
	sum := 0
	for _, n := range l {
		if r, _ := rowOf(n.Kind); n.Of == api.OfIP6 {
			sum += r.six
		} else {
			sum += r.weight
		}
	}
	return sum
}

// wanted tells what the chapter asks Check to tell.
func wanted(l []api.Node) (int, api.Errno) {
	if at, e := firstPoint(l); e != api.OK {
		return at, e
	}
	if begin(l) != 0 {
		return len(l), api.ErrTypeTree
	}
	if r, _ := rowOf(l[len(l)-1].Kind); r.is == "n" {
		return len(l) - 1, api.ErrTypeBool
	}
	for at := range l {
		if weighed(l[:at+1]) > api.MaxWeight {
			return at, api.ErrTypeWeight
		}
	}
	return 0, api.OK
}

// agrees holds a list to what the chapter asks of all four calls, and tells Check's error.
func agrees(t *testing.T, l []api.Node) api.Errno {
	t.Helper()
	place, e := wanted(l)
	answers(t, l, place, e)

	_, point := firstPoint(l)
	var v uint32
	is := false
	if point == api.OK && begin(l) == 0 {
		var whole *big.Int
		if whole, is = valueOf(l); is {
			v = uint32(whole.Uint64())
		}
	}
	if got, ok := types.Constant(l); got != v || ok != is {
		t.Errorf("P12.2: %s: %d, %v; want %d, %v", told(l), got, ok, v, is)
	}
	if got := types.Weight(l); got != weighed(l) {
		t.Errorf("P12.3: %s: %d; want %d", told(l), got, weighed(l))
	}
	var parts [][]api.Node
	is = begin(l) == 0
	if is {
		r, _ := rowOf(l[len(l)-1].Kind)
		parts, _ = partsOf(l, len(r.parts))
	}
	if got, ok := types.Parts(l); ok != is || !slices.EqualFunc(got, parts, slices.Equal[[]api.Node]) {
		t.Errorf("P12.4: %s: %d parts, %v; want %d, %v", told(l), len(got), ok, len(parts), is)
	}
	return e
}

// behindParts tells the node behind parts such as its kind needs, and what makes a truth of it, if it is a number.
func behindParts(n api.Node) []api.Node {
	r, known := rowOf(n.Kind)
	var l []api.Node
	for _, must := range r.parts {
		if must == 'n' {
			l = append(l, number(3))
		} else {
			l = append(l, ip())
		}
	}
	l = append(l, n)
	if known && r.is == "n" {
		l = append(l, number(0), rel(api.OpEq))
	}
	return l
}

// variants tells the node with one field turned to each of the numbers at which something may change, field by field.
func variants(n api.Node) [][]api.Node {
	small := []int{-1 << 63, -1 << 32, -2, -1, 0, 1, 2, 3, 4, 5, 6, 7, 8, 9, 10, 11, 12, 13, 14, 15, 16, 17, 31, 32, 33, 127, 128, 129, 256, 1 << 32, 1<<32 + 1, 1<<63 - 1}
	great := []uint32{0, 1, 2, 254, 255, 256, 257, 65534, 65535, 65536, 65537, 1 << 31, 1<<32 - 1}
	out := make([][]api.Node, 8)
	for _, v := range small {
		a, b, c, d, e := n, n, n, n, n
		a.Op, b.Of, c.Side, d.Size, e.Bits = v, v, v, v, v
		out[0], out[1], out[2], out[3], out[4] = append(out[0], a), append(out[1], b), append(out[2], c), append(out[3], d), append(out[4], e)
	}
	for _, v := range great {
		a, b := n, n
		a.N, b.M = v, v
		out[5], out[6] = append(out[5], a), append(out[6], b)
	}
	for at := range n.Addr {
		for _, v := range []byte{0, 1, 128} {
			a := n
			a.Addr[at] = v
			out[7] = append(out[7], a)
		}
	}
	return out
}

// Each kind with each field at all its bounds, and with each two of them.
func TestFields(t *testing.T) {
	for k := -1; k <= api.NodePort+2; k++ {
		base := sound(k)
		agrees(t, behindParts(base))
		for field, some := range variants(base) {
			for _, one := range some {
				agrees(t, list(one))
				agrees(t, behindParts(one))
				for _, others := range variants(one)[field+1:] {
					for _, two := range others {
						l := behindParts(two)
						place, e := wanted(l)
						answers(t, l, place, e)
					}
				}
			}
		}
	}
}

// Each field at each bound, told one by one.
func TestBounds(t *testing.T) {
	one := func(n api.Node, e api.Errno) {
		t.Helper()
		l := behindParts(n)
		place := slices.Index(l, n)
		if e == api.OK {
			place = 0
		}
		answers(t, l, place, e)
	}
	among := func(may []int, make func(v int) api.Node) {
		t.Helper()
		for v := -2; v <= 20; v++ {
			if slices.Contains(may, v) {
				one(make(v), api.OK)
			} else {
				one(make(v), api.ErrTypeTree)
			}
		}
	}
	among([]int{1, 2, 3, 4, 5, 6, 7, 8, 9, 10, 11, 12}, func(v int) api.Node { return load(v, 1) })
	among([]int{1, 2, 3, 4, 5, 6, 7, 8, 9, 10}, arith)
	among([]int{1, 2, 3, 4, 5, 6}, rel)
	among([]int{1, 2}, way)
	among([]int{2, 3, 4, 5, 6, 7, 8, 9, 10, 11, 12, 13}, word)
	among([]int{2, 3}, func(v int) api.Node { return next(v, 6) })
	among([]int{2, 3}, func(v int) api.Node { return host(v, 0, 1, 2, 3, 4) })
	among([]int{0, 1, 2}, func(v int) api.Node { return host(api.OfIP, v, 1, 2, 3, 4) })
	among([]int{2, 3}, func(v int) api.Node { return net(v, 0, 32, 1, 2, 3, 4) })
	among([]int{0, 1, 2}, func(v int) api.Node { return net(api.OfIP6, v, 32, 1, 2, 3, 4) })
	among([]int{0, 4, 5}, func(v int) api.Node { return port(v, 0, 1, 1) })
	among([]int{0, 1, 2}, func(v int) api.Node { return port(api.OfTCP, v, 1, 1) })
	for size := -4; size <= 9; size++ {
		if size == 1 || size == 2 || size == 4 {
			one(load(api.OfIP, size), api.OK)
		} else {
			one(load(api.OfIP, size), api.ErrTypeRange)
		}
	}
	for _, n := range []api.Node{
		number(0), number(1<<32 - 1), proto(0), proto(65535), next(api.OfIP, 255), next(api.OfIP6, 0),
		port(0, 0, 0, 0), port(0, 0, 65535, 65535), port(0, 0, 0, 65535), port(0, 0, 5, 6),
		host(api.OfIP, 0, 255, 255, 255, 255), host(api.OfIP6, 0, slices.Repeat([]byte{255}, 16)...),
	} {
		one(n, api.OK)
	}
	for _, n := range []api.Node{
		proto(65536), proto(1<<32 - 1), next(api.OfIP, 256), next(api.OfIP6, 256), next(api.OfIP6, 1<<32-1),
		port(0, 0, 65535, 65536), port(0, 0, 65536, 65536), port(0, 0, 65536, 1), port(0, 0, 6, 5), port(0, 0, 1, 0), port(0, 0, 0, 1<<32-1),
	} {
		one(n, api.ErrTypeRange)
	}
}

// Nets of either kind, each number of bits, with just one bit and with all bits up to one.
func TestNets(t *testing.T) {
	for of, most := range map[int]int{api.OfIP: 32, api.OfIP6: 128} {
		for bits := -1; bits <= most+1; bits++ {
			up := net(of, api.SideDst, bits)
			inside := bits >= 0 && bits <= most
			want := func(fits bool) (int, api.Errno) {
				switch {
				case !inside:
					return 0, api.ErrTypeRange
				case !fits:
					return 0, api.ErrTypeHost
				}
				return 0, api.OK
			}
			place, e := want(true)
			answers(t, list(up), place, e)
			for bit := range most {
				alone := net(of, api.SideSrc, bits)
				alone.Addr[bit/8] = 128 >> (bit % 8)
				up.Addr[bit/8] |= 128 >> (bit % 8)
				place, e = want(bit < bits)
				answers(t, list(alone), place, e)
				answers(t, list(up), place, e)
			}
		}
	}
}
