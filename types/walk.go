package types

import (
	"riddle/api"
	"riddle/reckon"
)

// What a part or a node may be.
const (
	truth = iota
	number
)

// part is what is known of a tree that no node has taken yet.
type part struct {
	is       int
	constant bool
	value    uint32
}

// walk goes node by node; it tells the trees that are left in the end, or the first node that has a fault, and which.
func walk(all []rule, t []api.Node) ([]part, int, api.Errno) {
	var left []part
	for at, n := range t {
		r, known := ruleOf(all, n.Kind)
		first := len(left) - len(r.takes)
		if !known || first < 0 {
			return nil, at, api.ErrTypeTree
		}
		parts := left[first:]
		if e := r.fault(n, parts); e != api.OK {
			return nil, at, e
		}
		left = append(left[:first], r.join(n, parts))
	}
	return left, 0, api.OK
}

// fault tells the first fault of a node that has found its parts.
func (r rule) fault(n api.Node, parts []part) api.Errno {
	if n != r.uses(n) || !r.may(n) {
		return api.ErrTypeTree
	}
	for i, must := range r.takes {
		if parts[i].is != must {
			return lacking(must)
		}
	}
	if dividesByZero(n, parts) {
		return api.ErrTypeZero
	}
	return r.bounds(n)
}

func lacking(must int) api.Errno {
	if must == number {
		return api.ErrTypeNumber
	}
	return api.ErrTypeBool
}

func dividesByZero(n api.Node, parts []part) bool {
	if n.Kind != api.NodeArith || !reckon.Divides(n.Op) {
		return false
	}
	divisor := parts[1]
	return divisor.constant && divisor.value == 0
}

// join tells what a node without a fault makes of its parts.
func (r rule) join(n api.Node, parts []part) part {
	for _, p := range parts {
		if !p.constant {
			return part{is: r.is}
		}
	}
	value, constant := r.value(n, parts)
	return part{is: r.is, constant: constant, value: value}
}
