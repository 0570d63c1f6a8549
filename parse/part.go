package parse

import "riddle/api"

// part reads what needs no operator.
func (p *parser) part() {
	first := p.next()
	if first.Kind == api.TokNumber {
		p.put(first, api.Node{Kind: api.NodeNumber, N: p.number()})
		return
	}
	switch first.Text {
	case "(":
		p.nested(func() {
			p.or()
			p.must(")")
		})
	case "len":
		p.put(p.take(), api.Node{Kind: api.NodeLen})
	case "inbound":
		p.put(p.take(), api.Node{Kind: api.NodeWay, Side: api.SideSrc})
	case "outbound":
		p.put(p.take(), api.Node{Kind: api.NodeWay, Side: api.SideDst})
	case "proto":
		p.put(first, api.Node{Kind: api.NodeProto, N: p.proto()})
	case "src", "dst", "host", "net", "port", "portrange":
		p.put(first, p.sided())
	default:
		p.named()
	}
}

// named reads what begins with a name: of what it may be, the token behind the name decides.
func (p *parser) named() {
	of := nameOf(p.next().Text)
	if of == api.OfAny {
		p.stuck()
	}
	name := p.take()
	switch {
	case of != api.OfMP && p.stands("["):
		p.load(name, of)
	case (of == api.OfIP || of == api.OfIP6) && p.stands("proto"):
		p.put(name, api.Node{Kind: api.NodeNext, Of: of, N: p.proto()})
	case (of == api.OfTCP || of == api.OfUDP) && p.stands("src", "dst", "port", "portrange"):
		p.put(name, p.port(of, p.side()))
	case of == api.OfPPP:
		p.stuck()
	default:
		p.put(name, api.Node{Kind: api.NodeWord, Of: of})
	}
}

// load reads the brackets behind a name.
func (p *parser) load(name api.Token, of int) {
	size := 1
	p.nested(func() {
		p.or()
		if p.skip(":") {
			size = int(p.number())
		}
		p.must("]")
	})
	p.put(name, api.Node{Kind: api.NodeLoad, Of: of, Size: size})
}

// proto reads the word proto and its number.
func (p *parser) proto() uint32 {
	p.must("proto")
	return p.number()
}

// sided reads what a side may stand ahead of, without tcp or udp.
func (p *parser) sided() api.Node {
	side := p.side()
	switch {
	case p.skip("host"):
		of, a := p.address()
		return api.Node{Kind: api.NodeHost, Of: of, Side: side, Addr: a}
	case p.skip("net"):
		of, a := p.address()
		p.must("/")
		return api.Node{Kind: api.NodeNet, Of: of, Side: side, Addr: a, Bits: int(p.number())}
	}
	return p.port(api.OfAny, side)
}

// side reads a side, if one stands there.
func (p *parser) side() int {
	switch {
	case p.skip("src"):
		return api.SideSrc
	case p.skip("dst"):
		return api.SideDst
	}
	return api.SideAny
}

// port reads port or portrange, one of which must stand there.
func (p *parser) port(of, side int) api.Node {
	node := api.Node{Kind: api.NodePort, Of: of, Side: side}
	if p.skip("port") {
		node.N = p.number()
		node.M = node.N
		return node
	}
	p.must("portrange")
	node.N = p.number()
	p.must("-")
	node.M = p.number()
	return node
}

// nameOf tells what a name speaks of, OfAny if the text is none.
func nameOf(text string) int {
	switch text {
	case "ppp":
		return api.OfPPP
	case "ip":
		return api.OfIP
	case "ip6":
		return api.OfIP6
	case "tcp":
		return api.OfTCP
	case "udp":
		return api.OfUDP
	case "icmp":
		return api.OfICMP
	case "icmp6":
		return api.OfICMP6
	case "lcp":
		return api.OfLCP
	case "pap":
		return api.OfPAP
	case "chap":
		return api.OfCHAP
	case "ipcp":
		return api.OfIPCP
	case "ip6cp":
		return api.OfIP6CP
	case "mp":
		return api.OfMP
	}
	return api.OfAny
}
