package types

import (
	"bytes"

	"riddle/addr"
	"riddle/api"
	"riddle/reckon"
)

// The greatest numbers that fields may hold.
const (
	maxProto = 65535
	maxNext  = 255
	maxPort  = 65535
)

func usesNothing(n api.Node) api.Node   { return api.Node{Kind: n.Kind} }
func usesN(n api.Node) api.Node         { return api.Node{Kind: n.Kind, N: n.N} }
func usesOp(n api.Node) api.Node        { return api.Node{Kind: n.Kind, Op: n.Op} }
func usesOf(n api.Node) api.Node        { return api.Node{Kind: n.Kind, Of: n.Of} }
func usesSide(n api.Node) api.Node      { return api.Node{Kind: n.Kind, Side: n.Side} }
func usesOfAndN(n api.Node) api.Node    { return api.Node{Kind: n.Kind, Of: n.Of, N: n.N} }
func usesOfAndSize(n api.Node) api.Node { return api.Node{Kind: n.Kind, Of: n.Of, Size: n.Size} }

func usesAddress(n api.Node) api.Node {
	return api.Node{Kind: n.Kind, Of: n.Of, Side: n.Side, Addr: n.Addr}
}

func usesNet(n api.Node) api.Node {
	return api.Node{Kind: n.Kind, Of: n.Of, Side: n.Side, Addr: n.Addr, Bits: n.Bits}
}

func usesPorts(n api.Node) api.Node {
	return api.Node{Kind: n.Kind, Of: n.Of, Side: n.Side, N: n.N, M: n.M}
}

func within(v, least, most int) bool { return least <= v && v <= most }

func always(api.Node) bool       { return true }
func mayLoad(n api.Node) bool    { return within(n.Of, api.OfPPP, api.OfIP6CP) }
func mayReckon(n api.Node) bool  { return within(n.Op, api.OpAdd, api.OpShr) }
func mayCompare(n api.Node) bool { return within(n.Op, api.OpEq, api.OpGe) }
func mayGo(n api.Node) bool      { return within(n.Side, api.SideSrc, api.SideDst) }
func mayName(n api.Node) bool    { return within(n.Of, api.OfIP, api.OfMP) }
func mayCarry(n api.Node) bool   { return within(n.Of, api.OfIP, api.OfIP6) }
func maySide(n api.Node) bool    { return within(n.Side, api.SideAny, api.SideDst) }

func mayAddress(n api.Node) bool {
	var address [16]byte
	copy(address[:], addressOf(n))
	return mayCarry(n) && maySide(n) && n.Addr == address
}

func mayPort(n api.Node) bool {
	return (n.Of == api.OfAny || within(n.Of, api.OfTCP, api.OfUDP)) && maySide(n)
}

// addressOf tells the bytes of the address of a host or net.
func addressOf(n api.Node) []byte {
	if n.Of == api.OfIP {
		return n.Addr[:4]
	}
	return n.Addr[:]
}

// ranged tells the fault of a node whose numbers are not all within their bounds.
func ranged(inside bool) api.Errno {
	if inside {
		return api.OK
	}
	return api.ErrTypeRange
}

func unbounded(api.Node) api.Errno       { return api.OK }
func boundsOfLoad(n api.Node) api.Errno  { return ranged(n.Size == 1 || n.Size == 2 || n.Size == 4) }
func boundsOfProto(n api.Node) api.Errno { return ranged(n.N <= maxProto) }
func boundsOfNext(n api.Node) api.Errno  { return ranged(n.N <= maxNext) }
func boundsOfPort(n api.Node) api.Errno  { return ranged(n.N <= n.M && n.M <= maxPort) }

func boundsOfNet(n api.Node) api.Errno {
	address := addressOf(n)
	net, e := addr.Net(address, n.Bits)
	if e != api.OK {
		return api.ErrTypeRange
	}
	if !bytes.Equal(net, address) {
		return api.ErrTypeHost
	}
	return api.OK
}

func unknown(api.Node, []part) (uint32, bool)    { return 0, false }
func itself(n api.Node, _ []part) (uint32, bool) { return n.N, true }

func reckoned(n api.Node, parts []part) (uint32, bool) {
	return reckon.Arith(n.Op, parts[0].value, parts[1].value)
}

func negated(_ api.Node, parts []part) (uint32, bool) {
	return reckon.Minus(parts[0].value), true
}
