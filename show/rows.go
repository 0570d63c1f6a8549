package show

import "riddle/api"

// The rows of the grammar, the weakest first; behind them what is a part by itself.
const (
	rowOr = iota + 1
	rowAnd
	rowNot
	rowRel
	rowBits
	rowXors
	rowAnds
	rowShifts
	rowSums
	rowProducts
	rowMinus
	rowPart
)

// rowOf tells the row that reads a node.
func rowOf(n api.Node) int {
	switch n.Kind {
	case api.NodeOr:
		return rowOr
	case api.NodeAnd:
		return rowAnd
	case api.NodeNot:
		return rowNot
	case api.NodeRel:
		return rowRel
	case api.NodeArith:
		return rowOfArith(n.Op)
	case api.NodeMinus:
		return rowMinus
	}
	return rowPart
}

func rowOfArith(op int) int {
	switch op {
	case api.OpOr:
		return rowBits
	case api.OpXor:
		return rowXors
	case api.OpAnd:
		return rowAnds
	case api.OpShl, api.OpShr:
		return rowShifts
	case api.OpAdd, api.OpSub:
		return rowSums
	}
	return rowProducts
}
