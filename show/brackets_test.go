package show_test

import (
	"slices"
	"testing"

	"riddle/api"
)

// Rows of the grammar, the weakest first.
const (
	rowOr = iota + 1
	rowAnd
	rowNot
	rowRel
	rowBits
	rowXors
	rowAnds
	rowShifts
	rowSums
	rowProducts
	rowMinus
	rowPart
)

type operator struct {
	text string
	row  int
	node api.Node
}

// operators are all that stand between two parts.
func operators() []operator {
	return []operator{
		{"or", rowOr, kind(api.NodeOr)}, {"and", rowAnd, kind(api.NodeAnd)},
		{"=", rowRel, rel(api.OpEq)}, {"!=", rowRel, rel(api.OpNe)}, {"<", rowRel, rel(api.OpLt)}, {"<=", rowRel, rel(api.OpLe)}, {">", rowRel, rel(api.OpGt)}, {">=", rowRel, rel(api.OpGe)},
		{"|", rowBits, arith(api.OpOr)}, {"^", rowXors, arith(api.OpXor)}, {"&", rowAnds, arith(api.OpAnd)},
		{"<<", rowShifts, arith(api.OpShl)}, {">>", rowShifts, arith(api.OpShr)},
		{"+", rowSums, arith(api.OpAdd)}, {"-", rowSums, arith(api.OpSub)},
		{"*", rowProducts, arith(api.OpMul)}, {"/", rowProducts, arith(api.OpDiv)}, {"%", rowProducts, arith(api.OpMod)},
	}
}

// sample is a tree of one node over parts that need no brackets, and its text.
type sample struct {
	l      []api.Node
	text   string
	row    int
	number bool
}

// samples has one of each kind of node, and one of each operator.
func samples() []sample {
	out := []sample{
		{list(number(7)), "7", rowPart, true}, {list(kind(api.NodeLen)), "len", rowPart, true}, {list(number(7), load(api.OfIP, 2)), "ip[7:2]", rowPart, true},
		{list(kind(api.NodeLen), kind(api.NodeMinus)), "-len", rowMinus, true}, {list(ip(), kind(api.NodeNot)), "not ip", rowNot, false},
		{list(way(api.SideDst)), "outbound", rowPart, false}, {list(ip()), "ip", rowPart, false}, {list(proto(33)), "proto 33", rowPart, false}, {list(next(api.OfIP6, 6)), "ip6 proto 6", rowPart, false},
		{list(host(api.OfIP6, 0, []byte{15: 1}...)), "host ::1", rowPart, false}, {list(net(api.OfIP, api.SideSrc, 8, 10)), "src net 10.0.0.0/8", rowPart, false},
		{list(port(api.OfTCP, api.SideDst, 1, 2)), "tcp dst portrange 1-2", rowPart, false},
	}
	for _, o := range operators() {
		if o.row < rowNot {
			out = append(out, sample{list(ip(), word(api.OfMP), o.node), "ip " + o.text + " mp", o.row, false})
		} else {
			out = append(out, sample{list(kind(api.NodeLen), number(8), o.node), "len " + o.text + " 8", o.row, o.row > rowRel})
		}
	}
	return out
}

// in tells the sample's text as a part, with brackets if its row is below the least.
func (s sample) in(least int) string {
	if s.row < least {
		return "(" + s.text + ")"
	}
	return s.text
}

// compared holds a tree, of which these are the texts as a whole and as a part in Full, to them: a truth by itself, a number by comparing it.
func compared(t *testing.T, l []api.Node, isNumber bool, short, full, part string) {
	t.Helper()
	if !isNumber {
		shows(t, l, short, full)
		return
	}
	shows(t, append(slices.Clone(l), number(3), rel(api.OpEq)), short+" = 3", part+" = 3")
	shows(t, append(append(list(number(3)), l...), rel(api.OpEq)), "3 = "+short, "3 = "+part)
}

// Each kind, and each operator, as the left part and as the right part of each operator.
func TestPartsOfTwo(t *testing.T) {
	for _, o := range operators() {
		for _, s := range samples() {
			plain, text := list(ip()), "ip"
			if o.row >= rowRel {
				plain, text = list(number(9)), "9"
			}
			asLeft := append(slices.Concat(s.l, plain), o.node)
			asRight := append(slices.Concat(plain, s.l), o.node)
			if s.number != (o.row >= rowRel) {
				refuses(t, asLeft, api.ErrShowTree)
				refuses(t, asRight, api.ErrShowTree)
				continue
			}
			least := o.row
			if o.row == rowRel {
				least = rowBits
			}
			left, right := s.in(least)+" "+o.text+" "+text, text+" "+o.text+" "+s.in(o.row+1)
			fullLeft, fullRight := s.in(rowPart)+" "+o.text+" "+text, text+" "+o.text+" "+s.in(rowPart)
			isNumber := o.row > rowRel
			compared(t, asLeft, isNumber, left, fullLeft, "("+fullLeft+")")
			compared(t, asRight, isNumber, right, fullRight, "("+fullRight+")")
		}
	}
}

// Each kind, and each operator, as the only part of a not, a minus and a load.
func TestOnlyParts(t *testing.T) {
	for _, s := range samples() {
		not := append(slices.Clone(s.l), kind(api.NodeNot))
		minus := append(slices.Clone(s.l), kind(api.NodeMinus))
		if !s.number {
			shows(t, not, "not "+s.in(rowNot), "not "+s.in(rowPart))
			refuses(t, append(minus, number(1), rel(api.OpEq)), api.ErrShowTree)
			refuses(t, append(slices.Clone(s.l), load(api.OfIP, 1), number(1), rel(api.OpEq)), api.ErrShowTree)
			continue
		}
		refuses(t, not, api.ErrShowTree)
		full := "-" + s.in(rowPart)
		compared(t, minus, true, "-"+s.in(rowMinus), full, "("+full+")")
		for size, behind := range map[int]string{1: "]", 2: ":2]", 4: ":4]"} {
			text := "lcp[" + s.text + behind
			compared(t, append(slices.Clone(s.l), load(api.OfLCP, size)), true, text, text, text)
		}
	}
}

// Each two operators as both parts of a third, where they may be.
func TestBothParts(t *testing.T) {
	for _, o := range operators() {
		for _, a := range samples() {
			for _, b := range samples() {
				if a.number != (o.row >= rowRel) || b.number != a.number {
					continue
				}
				l := append(slices.Concat(a.l, b.l), o.node)
				short := a.in(o.row) + " " + o.text + " " + b.in(o.row+1)
				full := a.in(rowPart) + " " + o.text + " " + b.in(rowPart)
				compared(t, l, o.row > rowRel, short, full, "("+full+")")
			}
		}
	}
}

func TestSomeBrackets(t *testing.T) {
	for _, x := range [][3]string{
		{"(ip and udp) or tcp", "ip and udp or tcp", "(ip and udp) or tcp"},
		{"ip and (udp or tcp)", "ip and (udp or tcp)", "ip and (udp or tcp)"},
		{"ip or udp and tcp", "ip or udp and tcp", "ip or (udp and tcp)"},
		{"ip and (udp and tcp)", "ip and (udp and tcp)", "ip and (udp and tcp)"},
		{"not ip and not udp or not tcp", "not ip and not udp or not tcp", "((not ip) and (not udp)) or (not tcp)"},
		{"not (ip and udp)", "not (ip and udp)", "not (ip and udp)"},
		{"not (not (ip or udp))", "not not (ip or udp)", "not (not (ip or udp))"},
		{"not (1 < 2)", "not 1 < 2", "not (1 < 2)"},
		{"1 < 2 and 3 < 4", "1 < 2 and 3 < 4", "(1 < 2) and (3 < 4)"},
		{"(1|2) = (3^4)", "1 | 2 = 3 ^ 4", "(1 | 2) = (3 ^ 4)"},
		{"1 - 2 - 3 = 0", "1 - 2 - 3 = 0", "((1 - 2) - 3) = 0"},
		{"1 - (2 + 3) = 0", "1 - (2 + 3) = 0", "(1 - (2 + 3)) = 0"},
		{"1 + (2 - 3) = 0", "1 + (2 - 3) = 0", "(1 + (2 - 3)) = 0"},
		{"1 * (2 / 3) % 4 = 0", "1 * (2 / 3) % 4 = 0", "((1 * (2 / 3)) % 4) = 0"},
		{"1 << 2 << 3 = 1 << (2 >> 3)", "1 << 2 << 3 = 1 << (2 >> 3)", "((1 << 2) << 3) = (1 << (2 >> 3))"},
		{"1 + 2 << 3 = 1 + (2 << 3)", "1 + 2 << 3 = 1 + (2 << 3)", "((1 + 2) << 3) = (1 + (2 << 3))"},
		{"1 & 2 | 3 ^ 4 = (1 | 2) & (3 ^ 4)", "1 & 2 | 3 ^ 4 = (1 | 2) & (3 ^ 4)", "((1 & 2) | (3 ^ 4)) = ((1 | 2) & (3 ^ 4))"},
		{"-(1 * 2) = -1 * 2", "-(1 * 2) = -1 * 2", "(-(1 * 2)) = ((-1) * 2)"},
		{"1 - -2 = - - -3", "1 - -2 = ---3", "(1 - (-2)) = (-(-(-3)))"},
		{"1 * -(2 * 3) = -(-(4))", "1 * -(2 * 3) = --4", "(1 * (-(2 * 3))) = (-(-4))"},
	} {
		shows(t, source(t, x[0]), x[1], x[2])
	}
}
