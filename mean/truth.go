package mean

import (
	"riddle/api"
	"riddle/walk"
)

// judged tells a truth that is no fault.
func judged(holds bool) int {
	if holds {
		return api.JudgeYes
	}
	return api.JudgeNo
}

// both tells what and makes of two truths.
func both(a, b int) int {
	if a != api.JudgeYes {
		return a
	}
	return b
}

// either tells what or makes of two truths.
func either(a, b int) int {
	if a != api.JudgeNo {
		return a
	}
	return b
}

// other tells what not makes of a truth.
func other(a int) int {
	switch a {
	case api.JudgeYes:
		return api.JudgeNo
	case api.JudgeNo:
		return api.JudgeYes
	}
	return a
}

// sided tells what is said of the side that is asked for.
func sided(side, src, dst int) int {
	switch side {
	case api.SideSrc:
		return src
	case api.SideDst:
		return dst
	}
	return either(src, dst)
}

// truth tells what a node says that has no parts and is no number.
func (r *reader) truth(n api.Node) int {
	switch n.Kind {
	case api.NodeWay:
		return judged(r.goes(wayOf(n.Side)))
	case api.NodeWord:
		return judged(r.is(n.Of))
	case api.NodeProto:
		return judged(r.speaks(n.N))
	case api.NodeNext:
		return judged(r.carries(n.Of, n.N))
	case api.NodeHost:
		return r.within(n, 8*walk.EndsOf(n.Of).Size)
	case api.NodeNet:
		return r.within(n, n.Bits)
	}
	return r.port(n)
}

func wayOf(side int) int {
	if side == api.SideSrc {
		return api.WayIn
	}
	return api.WayOut
}

// within tells whether an address of the frame is the node's own, in its first bits.
func (r *reader) within(n api.Node, bits int) int {
	base, there := r.base(n.Of)
	if !there {
		return api.JudgeNo
	}
	ends := walk.EndsOf(n.Of)
	at := func(place int) int {
		return judged(r.alike(base+place, n.Addr[:ends.Size], bits))
	}
	return sided(n.Side, at(ends.Src), at(ends.Dst))
}

func (r *reader) port(n api.Node) int {
	base, there := r.carrier(n.Of)
	if !there {
		return api.JudgeNo
	}
	at := func(place int) int {
		port, inside := r.number(uint64(place), 2)
		if !inside {
			return api.JudgeFault
		}
		return judged(n.N <= port && port <= n.M)
	}
	return sided(n.Side, at(base), at(base+2))
}

// carrier tells where that begins which has ports.
func (r *reader) carrier(of int) (int, bool) {
	if of != api.OfAny {
		return r.base(of)
	}
	if base, there := r.base(api.OfTCP); there {
		return base, true
	}
	return r.base(api.OfUDP)
}
