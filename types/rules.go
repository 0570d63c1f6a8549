package types

import "riddle/api"

// rule is what the nodes of a kind may have.
type rule struct {
	takes  []int // what each of its parts must be
	is     int
	weight func(n api.Node) int
	uses   func(n api.Node) api.Node                     // the node with nothing in it but what its kind uses
	may    func(n api.Node) bool                         // whether Op, Of, Side and the kind of address are such as may be
	bounds func(n api.Node) api.Errno                    // what is wrong with its numbers
	value  func(n api.Node, parts []part) (uint32, bool) // over constants: what it comes to, if it is a constant too
}

// rules has them at their kinds' places.
func rules() []rule {
	var none []int
	aNumber, numbers := []int{number}, []int{number, number}
	aTruth, truths := []int{truth}, []int{truth, truth}
	return []rule{
		api.NodeNumber: {none, number, weighs(1), usesN, always, unbounded, itself},
		api.NodeLen:    {none, number, weighs(2), usesNothing, always, unbounded, unknown},
		api.NodeLoad:   {aNumber, number, weighs(24), usesOfAndSize, mayLoad, boundsOfLoad, unknown},
		api.NodeArith:  {numbers, number, weighs(6), usesOp, mayReckon, unbounded, reckoned},
		api.NodeMinus:  {aNumber, number, weighs(2), usesNothing, always, unbounded, negated},
		api.NodeRel:    {numbers, truth, weighs(8), usesOp, mayCompare, unbounded, unknown},
		api.NodeAnd:    {truths, truth, weighs(1), usesNothing, always, unbounded, unknown},
		api.NodeOr:     {truths, truth, weighs(1), usesNothing, always, unbounded, unknown},
		api.NodeNot:    {aTruth, truth, weighs(1), usesNothing, always, unbounded, unknown},
		api.NodeWay:    {none, truth, weighs(6), usesSide, mayGo, unbounded, unknown},
		api.NodeWord:   {none, truth, weighs(12), usesOf, mayName, unbounded, unknown},
		api.NodeProto:  {none, truth, weighs(8), usesN, always, boundsOfProto, unknown},
		api.NodeNext:   {none, truth, weighs(16), usesOfAndN, mayCarry, boundsOfNext, unknown},
		api.NodeHost:   {none, truth, weighsByOf(24, 72), usesAddress, mayAddress, unbounded, unknown},
		api.NodeNet:    {none, truth, weighsByOf(32, 80), usesNet, mayAddress, boundsOfNet, unknown},
		api.NodePort:   {none, truth, weighs(40), usesPorts, mayPort, boundsOfPort, unknown},
	}
}

// ruleOf tells the rule of a kind, and whether there is that kind.
func ruleOf(all []rule, kind int) (rule, bool) {
	if kind < api.NodeNumber || kind >= len(all) {
		return rule{}, false
	}
	return all[kind], true
}

func weighs(weight int) func(api.Node) int {
	return func(api.Node) int { return weight }
}

func weighsByOf(weight, ofIP6 int) func(api.Node) int {
	return func(n api.Node) int {
		if n.Of == api.OfIP6 {
			return ofIP6
		}
		return weight
	}
}
