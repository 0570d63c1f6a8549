package mean

import "riddle/api"

// part is what a tree comes to that no node has taken yet: how, of a truth, is what is said of the frame; of a number it is whether there is a value.
type part struct {
	how   int
	value uint32
}

// reader goes through the nodes of a tree, and asks a frame for what they speak of.
type reader struct {
	teller
	left []part
}

// reckoned tells what a filter or a number comes to. Each node is reckoned, behind an and or an or that stops too: what comes of it is then left aside.
func reckoned(t []api.Node, frame teller) part {
	r := reader{teller: frame}
	for _, n := range t {
		r.read(n)
	}
	return r.take()
}

func (r *reader) put(p part) {
	r.left = append(r.left, p)
}

func (r *reader) take() part {
	last := len(r.left) - 1
	p := r.left[last]
	r.left = r.left[:last]
	return p
}

// pair takes two parts, in the order in which they stand.
func (r *reader) pair() (part, part) {
	b := r.take()
	return r.take(), b
}

// read puts what a node makes of its parts in their place.
func (r *reader) read(n api.Node) {
	switch n.Kind {
	case api.NodeNumber:
		r.put(known(n.N))
	case api.NodeLen:
		r.put(known(r.length()))
	case api.NodeLoad:
		r.put(r.load(n, r.take()))
	case api.NodeMinus:
		r.put(minus(r.take()))
	case api.NodeArith:
		a, b := r.pair()
		r.put(arith(n.Op, a, b))
	case api.NodeRel:
		a, b := r.pair()
		r.put(part{how: rel(n.Op, a, b)})
	case api.NodeAnd:
		a, b := r.pair()
		r.put(part{how: both(a.how, b.how)})
	case api.NodeOr:
		a, b := r.pair()
		r.put(part{how: either(a.how, b.how)})
	case api.NodeNot:
		r.put(part{how: other(r.take().how)})
	default:
		r.put(part{how: r.truth(n)})
	}
}
