package parse_test

import (
	"slices"
	"strings"
	"testing"

	"riddle/api"
)

// Rows of the grammar, the weakest first.
const (
	rowOr = iota + 1
	rowAnd
	rowNot
	rowRel
	rowBits
	rowXors
	rowAnds
	rowShifts
	rowSums
	rowProducts
	rowMinus
)

type operator struct {
	text string
	row  int
	node api.Node
}

// operators are all that stand between two parts.
func operators() []operator {
	return []operator{
		{"or", rowOr, kind(api.NodeOr)}, {"||", rowOr, kind(api.NodeOr)},
		{"and", rowAnd, kind(api.NodeAnd)}, {"&&", rowAnd, kind(api.NodeAnd)},
		{"=", rowRel, rel(api.OpEq)}, {"==", rowRel, rel(api.OpEq)}, {"!=", rowRel, rel(api.OpNe)},
		{"<", rowRel, rel(api.OpLt)}, {"<=", rowRel, rel(api.OpLe)}, {">", rowRel, rel(api.OpGt)}, {">=", rowRel, rel(api.OpGe)},
		{"|", rowBits, arith(api.OpOr)}, {"^", rowXors, arith(api.OpXor)}, {"&", rowAnds, arith(api.OpAnd)},
		{"<<", rowShifts, arith(api.OpShl)}, {">>", rowShifts, arith(api.OpShr)},
		{"+", rowSums, arith(api.OpAdd)}, {"-", rowSums, arith(api.OpSub)},
		{"*", rowProducts, arith(api.OpMul)}, {"/", rowProducts, arith(api.OpDiv)}, {"%", rowProducts, arith(api.OpMod)},
	}
}

// joined tells a source of these tokens, one blank between each two, and their places.
func joined(tokens ...string) (string, []int) {
	var at []int
	end := 0
	for _, token := range tokens {
		at = append(at, end)
		end += len(token) + 1
	}
	return strings.Join(tokens, " "), at
}

// picked tells the places of the tokens that make the nodes.
func picked(at []int, makers ...int) []int {
	var out []int
	for _, maker := range makers {
		out = append(out, at[maker])
	}
	return out
}

func TestEachOperator(t *testing.T) {
	for _, o := range operators() {
		s, at := joined("1", o.text, "2")
		gives(t, s, nodes(number(1), number(2), o.node), picked(at, 0, 2, 1))
		s, at = joined("ip", o.text, "len")
		gives(t, s, nodes(word(api.OfIP), kind(api.NodeLen), o.node), picked(at, 0, 2, 1))
		s, at = joined("(", "1", o.text, "(", "2", ")", ")")
		gives(t, s, nodes(number(1), number(2), o.node), picked(at, 1, 4, 2))
		refuses(t, "1 "+o.text, 2+len(o.text), api.ErrParseEnd)
		s, at = joined("1", o.text, ")")
		refuses(t, s, at[2], api.ErrParseToken)
		if o.text != "-" {
			refuses(t, o.text, 0, api.ErrParseToken)
			refuses(t, "( "+o.text+" 1 )", 2, api.ErrParseToken)
		}
	}
}

func TestTwoOperators(t *testing.T) {
	left, right := []int{0, 2, 1, 4, 3}, []int{0, 2, 4, 3, 1}
	for _, a := range operators() {
		for _, b := range operators() {
			s, at := joined("1", a.text, "2", b.text, "3")
			fromLeft := nodes(number(1), number(2), a.node, number(3), b.node)
			fromRight := nodes(number(1), number(2), number(3), b.node, a.node)
			switch {
			case a.row == rowRel && b.row == rowRel:
				refuses(t, s, at[3], api.ErrParseToken)
			case a.row >= b.row:
				gives(t, s, fromLeft, picked(at, left...))
			default:
				gives(t, s, fromRight, picked(at, right...))
			}
			s, at = joined("(", "1", a.text, "2", ")", b.text, "3")
			gives(t, s, fromLeft, picked(at, 1, 3, 2, 6, 5))
			s, at = joined("1", a.text, "(", "2", b.text, "3", ")")
			gives(t, s, fromRight, picked(at, 0, 3, 5, 4, 1))
		}
	}
}

// A row of four parts: the operators of one row, in all orders, bind from the left.
func TestFourPartsOfOneRow(t *testing.T) {
	for _, a := range operators() {
		for _, b := range operators() {
			for _, c := range operators() {
				if a.row != b.row || b.row != c.row || a.row == rowRel {
					continue
				}
				s, at := joined("1", a.text, "2", b.text, "3", c.text, "4")
				gives(t, s, nodes(number(1), number(2), a.node, number(3), b.node, number(4), c.node), picked(at, 0, 2, 1, 4, 3, 6, 5))
			}
		}
	}
}

func TestComparisons(t *testing.T) {
	for _, a := range operators() {
		for _, b := range operators() {
			if a.row != rowRel || b.row != rowRel {
				continue
			}
			s, at := joined("1", a.text, "2", "+", "3", b.text, "4")
			refuses(t, s, at[5], api.ErrParseToken)
			s, at = joined("not", "1", a.text, "2", b.text, "3")
			refuses(t, s, at[4], api.ErrParseToken)
			s, at = joined("ip", "[", "1", a.text, "2", b.text, "3", "]")
			refuses(t, s, at[5], api.ErrParseToken)
			s, at = joined("1", a.text, "2", "and", "3", b.text, "4")
			gives(t, s, nodes(number(1), number(2), a.node, number(3), number(4), b.node, kind(api.NodeAnd)), picked(at, 0, 2, 1, 4, 6, 5, 3))
		}
	}
}

func TestNot(t *testing.T) {
	not := kind(api.NodeNot)
	for _, text := range []string{"not", "!"} {
		s, at := joined(text, "ip")
		gives(t, s, nodes(word(api.OfIP), not), picked(at, 1, 0))
		s, at = joined(text, "not", text, "!", "ip")
		gives(t, s, nodes(word(api.OfIP), not, not, not, not), picked(at, 4, 3, 2, 1, 0))
		refuses(t, text, len(text), api.ErrParseEnd)
		refuses(t, text+" )", len(text)+1, api.ErrParseToken)
		refuses(t, "- "+text+" ip", 2, api.ErrParseToken)
		refuses(t, "ip "+text+" ip", 3, api.ErrParseToken)
		for _, o := range operators() {
			s, at = joined(text, "1", o.text, "2")
			if o.row < rowNot {
				gives(t, s, nodes(number(1), not, number(2), o.node), picked(at, 1, 0, 3, 2))
			} else {
				gives(t, s, nodes(number(1), number(2), o.node, not), picked(at, 1, 3, 2, 0))
			}
			s, at = joined("1", o.text, text, "2")
			if o.row < rowNot {
				gives(t, s, nodes(number(1), number(2), not, o.node), picked(at, 0, 3, 2, 1))
			} else {
				refuses(t, s, at[2], api.ErrParseToken)
			}
			s, at = joined("1", o.text, "(", text, "2", ")")
			gives(t, s, nodes(number(1), number(2), not, o.node), picked(at, 0, 4, 3, 1))
			s, at = joined(text, "(", "1", o.text, "2", ")")
			gives(t, s, nodes(number(1), number(2), o.node, not), picked(at, 2, 4, 3, 0))
		}
	}
	gives(t, "!1!=2", nodes(number(1), number(2), rel(api.OpNe), not), places(1, 4, 2, 0))
}

func TestMinus(t *testing.T) {
	minus := kind(api.NodeMinus)
	gives(t, "-1", nodes(number(1), minus), places(1, 0))
	gives(t, "---len", nodes(kind(api.NodeLen), minus, minus, minus), places(3, 2, 1, 0))
	gives(t, "-(-1)", nodes(number(1), minus, minus), places(3, 2, 0))
	gives(t, "-ip[-1:2]", nodes(number(1), minus, load(api.OfIP, 2), minus), places(5, 4, 1, 0))
	gives(t, "not -ip", nodes(word(api.OfIP), minus, kind(api.NodeNot)), places(5, 4, 0))
	refuses(t, "-", 1, api.ErrParseEnd)
	refuses(t, "1--", 3, api.ErrParseEnd)
	refuses(t, "-+1", 1, api.ErrParseToken)
	for _, o := range operators() {
		s, at := joined("-", "1", o.text, "2")
		gives(t, s, nodes(number(1), minus, number(2), o.node), picked(at, 1, 0, 3, 2))
		s, at = joined("1", o.text, "-", "2")
		gives(t, s, nodes(number(1), number(2), minus, o.node), picked(at, 0, 3, 2, 1))
		s, at = joined("-", "-", "1", o.text, "-", "-", "2")
		gives(t, s, nodes(number(1), minus, minus, number(2), minus, minus, o.node), picked(at, 2, 1, 0, 6, 5, 4, 3))
		s, at = joined("-", "(", "1", o.text, "2", ")")
		gives(t, s, nodes(number(1), number(2), o.node, minus), picked(at, 2, 4, 3, 0))
	}
}

// A source with an operator of each row, the weakest first, and one with the strongest first.
func TestAllRows(t *testing.T) {
	list := slices.CompactFunc(operators(), func(a, b operator) bool { return a.row == b.row })
	var up, down []string
	var upwards, downwards []api.Node
	var makers []int
	for i, o := range list {
		up = append(up, "7", o.text)
		upwards = append(upwards, number(7))
		makers = append(makers, 2*i)
	}
	up, upwards, makers = append(up, "8"), append(upwards, number(8)), append(makers, 2*len(list))
	down, downwards = append(down, "8"), append(downwards, number(8))
	for i, o := range slices.Backward(list) {
		down = append(down, o.text, "7")
		downwards = append(downwards, number(7), o.node)
		upwards = append(upwards, o.node)
		makers = append(makers, 2*i+1)
	}
	s, at := joined(up...)
	gives(t, s, upwards, picked(at, makers...))
	s, at = joined(down...)
	makers = []int{0}
	for i := range list {
		makers = append(makers, 2*i+2, 2*i+1)
	}
	gives(t, s, downwards, picked(at, makers...))
}
