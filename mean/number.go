package mean

import (
	"riddle/api"
	"riddle/reckon"
)

// known tells a number that has a value.
func known(value uint32) part { return part{how: api.JudgeYes, value: value} }

// joint tells how it is with two numbers together: what is not there counts ahead of a fault.
func joint(a, b part) int {
	if a.how == api.JudgeNo || b.how == api.JudgeNo {
		return api.JudgeNo
	}
	if a.how == api.JudgeFault {
		return api.JudgeFault
	}
	return b.how
}

func arith(op int, a, b part) part {
	if how := joint(a, b); how != api.JudgeYes {
		return part{how: how}
	}
	value, ok := reckon.Arith(op, a.value, b.value)
	if !ok {
		return part{how: api.JudgeFault}
	}
	return known(value)
}

func minus(a part) part {
	if a.how != api.JudgeYes {
		return a
	}
	return known(reckon.Minus(a.value))
}

func (r *reader) load(n api.Node, index part) part {
	base, there := r.base(n.Of)
	if !there {
		return part{how: api.JudgeNo}
	}
	if index.how != api.JudgeYes {
		return index
	}
	value, inside := r.number(uint64(base)+uint64(index.value), n.Size)
	if !inside {
		return part{how: api.JudgeFault}
	}
	return known(value)
}

func rel(op int, a, b part) int {
	if how := joint(a, b); how != api.JudgeYes {
		return how
	}
	return judged(compare(op, a.value, b.value))
}

func compare(op int, a, b uint32) bool {
	switch op {
	case api.OpEq:
		return a == b
	case api.OpNe:
		return a != b
	case api.OpLt:
		return a < b
	case api.OpLe:
		return a <= b
	case api.OpGt:
		return a > b
	}
	return a >= b
}
