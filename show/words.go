package show

import (
	"strconv"
	"strings"

	"riddle/addr"
	"riddle/api"
)

// words puts texts together, divided by one blank; empty ones are left out.
func words(texts ...string) string {
	var out strings.Builder
	for _, text := range texts {
		if text == "" {
			continue
		}
		if out.Len() > 0 {
			out.WriteByte(' ')
		}
		out.WriteString(text)
	}
	return out.String()
}

// leaf tells the text of a node that has no parts.
func leaf(n api.Node) string {
	switch n.Kind {
	case api.NodeNumber:
		return decimal(n.N)
	case api.NodeLen:
		return "len"
	case api.NodeWay:
		return way(n.Side)
	case api.NodeWord:
		return name(n.Of)
	case api.NodeProto, api.NodeNext:
		return words(name(n.Of), "proto", decimal(n.N))
	case api.NodeHost:
		return words(side(n.Side), "host", address(n))
	case api.NodeNet:
		return words(side(n.Side), "net", address(n)+"/"+strconv.Itoa(n.Bits))
	}
	return words(name(n.Of), side(n.Side), ports(n.N, n.M))
}

func decimal(n uint32) string {
	return strconv.FormatUint(uint64(n), 10)
}

func ports(first, last uint32) string {
	if first == last {
		return words("port", decimal(first))
	}
	return words("portrange", decimal(first)+"-"+decimal(last))
}

// address tells the address of a host or net.
func address(n api.Node) string {
	if n.Of == api.OfIP6 {
		return addr.Print6(n.Addr)
	}
	var quad [4]byte
	copy(quad[:], n.Addr[:])
	return addr.Print4(quad)
}

// size tells what stands behind an index: of one byte nothing, since that is what a load has without a size.
func size(bytes int) string {
	if bytes == 1 {
		return ""
	}
	return ":" + strconv.Itoa(bytes)
}

func way(side int) string {
	if side == api.SideSrc {
		return "inbound"
	}
	return "outbound"
}

func side(side int) string {
	switch side {
	case api.SideSrc:
		return "src"
	case api.SideDst:
		return "dst"
	}
	return ""
}

// name tells the name of what a node speaks of; of OfAny there is none.
func name(of int) string {
	switch of {
	case api.OfPPP:
		return "ppp"
	case api.OfIP:
		return "ip"
	case api.OfIP6:
		return "ip6"
	case api.OfTCP:
		return "tcp"
	case api.OfUDP:
		return "udp"
	case api.OfICMP:
		return "icmp"
	case api.OfICMP6:
		return "icmp6"
	case api.OfLCP:
		return "lcp"
	case api.OfPAP:
		return "pap"
	case api.OfCHAP:
		return "chap"
	case api.OfIPCP:
		return "ipcp"
	case api.OfIP6CP:
		return "ip6cp"
	case api.OfMP:
		return "mp"
	}
	return ""
}

// sign tells the sign or word of a node with two parts.
func sign(n api.Node) string {
	switch n.Kind {
	case api.NodeOr:
		return "or"
	case api.NodeAnd:
		return "and"
	case api.NodeRel:
		return comparison(n.Op)
	}
	return arithmetic(n.Op)
}

func comparison(op int) string {
	switch op {
	case api.OpEq:
		return "="
	case api.OpNe:
		return "!="
	case api.OpLt:
		return "<"
	case api.OpLe:
		return "<="
	case api.OpGt:
		return ">"
	}
	return ">="
}

func arithmetic(op int) string {
	switch op {
	case api.OpAdd:
		return "+"
	case api.OpSub:
		return "-"
	case api.OpMul:
		return "*"
	case api.OpDiv:
		return "/"
	case api.OpMod:
		return "%"
	case api.OpAnd:
		return "&"
	case api.OpOr:
		return "|"
	case api.OpXor:
		return "^"
	case api.OpShl:
		return "<<"
	}
	return ">>"
}
