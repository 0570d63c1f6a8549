package lower

import (
	"riddle/api"
	"riddle/walk"
	"riddle/word"
)

// truth is blocks that say yes or no: the first one of them, and the goals of those that have said it.
type truth struct {
	first   int
	yes, no goal
}

func both(x, y truth) truth {
	x.yes(y.first)
	return truth{first: x.first, yes: y.yes, no: joined(x.no, y.no)}
}

func either(x, y truth) truth {
	return other(both(other(x), other(y)))
}

func other(x truth) truth {
	return truth{first: x.first, yes: x.no, no: x.yes}
}

// all tells whether each one holds. They are asked in their order, in which their blocks stand.
func all(x truth, more ...truth) truth {
	for _, y := range more {
		x = both(x, y)
	}
	return x
}

// is tells whether a scratch word is a number.
func (b *builder) is(place, value uint32) truth {
	return b.claim(do(api.JeqK, value), do(api.LdMem, place))
}

// says tells what a node says that has no parts and is no number.
func (b *builder) says(n api.Node) truth {
	switch n.Kind {
	case api.NodeWay:
		return b.claim(do(api.JeqK, wayOf(n.Side)), do(api.LdAbsB, 0))
	case api.NodeWord:
		return b.name(n.Of)
	case api.NodeProto:
		return b.is(wordProto, n.N)
	case api.NodeNext:
		return all(b.name(n.Of), b.is(wordNext, n.N))
	case api.NodeHost:
		return b.within(n, 8*walk.EndsOf(n.Of).Size)
	case api.NodeNet:
		return b.within(n, n.Bits)
	}
	return b.port(n)
}

func wayOf(side int) uint32 {
	if side == api.SideSrc {
		return api.WayIn
	}
	return api.WayOut
}

// name tells what the word of a name says. What IP carries is 0 where there is no IP.
func (b *builder) name(of int) truth {
	switch of {
	case api.OfIP:
		return b.is(wordNet, 4)
	case api.OfIP6:
		return b.is(wordNet, 6)
	case api.OfTCP:
		return b.is(wordNext, api.NextTCP)
	case api.OfUDP:
		return b.is(wordNext, api.NextUDP)
	case api.OfICMP:
		return all(b.is(wordNet, 4), b.is(wordNext, api.NextICMP))
	case api.OfICMP6:
		return all(b.is(wordNet, 6), b.is(wordNext, api.NextICMP6))
	case api.OfMP:
		return b.is(wordPiece, 1)
	}
	return b.is(wordProto, protoOf(of))
}

func protoOf(of int) uint32 {
	switch of {
	case api.OfLCP:
		return api.ProtoLCP
	case api.OfPAP:
		return api.ProtoPAP
	case api.OfCHAP:
		return api.ProtoCHAP
	case api.OfIPCP:
		return api.ProtoIPCP
	}
	return api.ProtoIP6CP
}

// there tells whether that is there of which a load speaks.
func (b *builder) there(of int) truth {
	if carried(of) {
		return all(b.name(of), b.begun())
	}
	return b.name(of)
}

// begun tells whether what IP carries begins in the frame.
func (b *builder) begun() truth {
	return other(b.is(wordLoad, 0))
}

// compare asks first whether all is there of which the numbers speak: what is not there counts ahead of a fault.
func (b *builder) compare(op int, x, y number) truth {
	var asked []truth
	for of := api.OfIP; of <= api.OfIP6CP; of++ {
		if (x.speaks|y.speaks)>>of&1 != 0 {
			asked = append(asked, b.there(of))
		}
	}
	code, turned := question(op)
	p := paired(x, y, code)
	holds := b.claim(p.last, p.code...)
	if turned {
		holds = other(holds)
	}
	asked = append(asked, holds)
	return all(asked[0], asked[1:]...)
}

// question tells the code that asks A and K for an operation, and whether it asks for the contrary.
func question(op int) (code uint16, turned bool) {
	switch op {
	case api.OpEq:
		return api.JeqK, false
	case api.OpNe:
		return api.JeqK, true
	case api.OpLt:
		return api.JgeK, true
	case api.OpLe:
		return api.JgtK, true
	case api.OpGt:
		return api.JgtK, false
	}
	return api.JgeK, false
}

// sided tells a truth of the side that is asked for.
func sided(side int, src, dst func() truth) truth {
	switch side {
	case api.SideSrc:
		return src()
	case api.SideDst:
		return dst()
	}
	// Where they are asked in turn, their blocks stand in turn too.
	first := src()
	return either(first, dst())
}

// within tells whether an address of the frame is the node's own, in its first bits.
func (b *builder) within(n api.Node, bits int) truth {
	named := b.name(n.Of)
	if bits == 0 {
		return named
	}
	ends := walk.EndsOf(n.Of)
	alike := func(from int) func() truth {
		return func() truth { return b.alike(n.Addr, from, bits) }
	}
	return all(named, sided(n.Side, alike(ends.Src), alike(ends.Dst)))
}

// alike tells whether the address that begins so far behind the load's beginning is the given one, in its first bits, of which there is at least one: word by word.
func (b *builder) alike(address [16]byte, from, bits int) truth {
	var words []truth
	for at := 0; 8*at < bits; at += 4 {
		wanted, _ := word.Get(address[:], at, 4)
		code := []api.Insn{do(api.LdxMem, wordAt), do(api.LdIndW, uint32(from+at))}
		if rest := bits - 8*at; rest < 32 {
			code = append(code, do(api.AndK, ^uint32(0)<<(32-rest)))
		}
		words = append(words, b.claim(do(api.JeqK, wanted), code...))
	}
	return all(words[0], words[1:]...)
}

// port tells whether a port is from N to M.
func (b *builder) port(n api.Node) truth {
	ranges := func(from uint32) func() truth {
		return func() truth {
			// Below N, the difference wraps to something great.
			return other(b.claim(do(api.JgtK, n.M-n.N), do(api.LdxMem, wordLoad), do(api.LdIndH, from), do(api.SubK, n.N)))
		}
	}
	return all(b.begun(), b.carries(n.Of), sided(n.Side, ranges(0), ranges(2)))
}

// carries tells whether IP carries what has ports.
func (b *builder) carries(of int) truth {
	if of == api.OfAny {
		return either(b.name(api.OfTCP), b.name(api.OfUDP))
	}
	return b.name(of)
}
