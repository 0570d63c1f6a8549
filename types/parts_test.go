package types_test

import (
	"math/rand"
	"slices"
	"testing"

	"riddle/api"
	"riddle/types"
)

// parted holds a list to be a tree whose root has just these parts.
func parted(t *testing.T, l []api.Node, want ...[]api.Node) {
	t.Helper()
	if got, ok := types.Parts(l); !ok || !slices.EqualFunc(got, want, slices.Equal[[]api.Node]) {
		t.Errorf("P12.4: %s: %d parts, %v; want %d", told(l), len(got), ok, len(want))
	}
}

// noTree holds a list to be no tree.
func noTree(t *testing.T, l []api.Node) {
	t.Helper()
	if got, ok := types.Parts(l); len(got) != 0 || ok {
		t.Errorf("P12.4: %s: %d parts, %v; want none", told(l), len(got), ok)
	}
}

// filled tells a node of a kind with something in each field, right or wrong.
func filled(kind int) api.Node {
	return api.Node{Kind: kind, Op: 77, N: 77, M: 7, Size: -1, Of: 77, Side: -7, Addr: [16]byte{1, 15: 1}, Bits: 999}
}

func TestPartsOfEachKind(t *testing.T) {
	leaves := []int{api.NodeNumber, api.NodeLen, api.NodeWay, api.NodeWord, api.NodeProto, api.NodeNext, api.NodeHost, api.NodeNet, api.NodePort}
	one := []int{api.NodeLoad, api.NodeMinus, api.NodeNot}
	two := []int{api.NodeArith, api.NodeRel, api.NodeAnd, api.NodeOr}
	some := [][]api.Node{
		list(number(1)), list(filled(api.NodePort)), list(ip(), kind(api.NodeMinus)), list(filled(api.NodeLen), ip(), filled(api.NodeAnd)),
		list(ip(), ip(), kind(api.NodeOr), number(5), kind(api.NodeNot), filled(api.NodeRel)),
		list(ip(), ip(), ip(), kind(api.NodeOr), kind(api.NodeAnd), filled(api.NodeLoad)),
	}
	for _, k := range leaves {
		parted(t, list(filled(k)))
		parted(t, list(kind(k)))
	}
	for _, a := range some {
		for _, k := range leaves {
			noTree(t, append(slices.Clone(a), kind(k)))
		}
		for _, k := range one {
			parted(t, append(slices.Clone(a), filled(k)), a)
			parted(t, append(slices.Clone(a), kind(k)), a)
		}
		for _, k := range two {
			noTree(t, append(slices.Clone(a), filled(k)))
		}
		for _, b := range some {
			for _, k := range two {
				parted(t, append(slices.Concat(a, b), filled(k)), a, b)
				parted(t, append(slices.Concat(a, b), kind(k)), a, b)
			}
			for _, k := range one {
				noTree(t, append(slices.Concat(a, b), filled(k)))
			}
			for _, c := range some {
				for _, k := range two {
					noTree(t, append(slices.Concat(a, b, c), filled(k)))
				}
			}
		}
	}
}

func TestNoTrees(t *testing.T) {
	noTree(t, nil)
	noTree(t, []api.Node{})
	noTree(t, list(ip(), ip()))
	noTree(t, list(ip(), ip(), ip(), kind(api.NodeAnd)))
	for k := api.NodeLoad; k <= api.NodeNot; k++ {
		noTree(t, list(kind(k)))
		noTree(t, list(kind(k), ip()))
		noTree(t, list(kind(k), ip(), kind(api.NodeNot)))
		noTree(t, list(kind(k), ip(), kind(api.NodeAnd)))
	}
	for _, k := range []int{-1 << 63, -1, 0, 17, 1<<63 - 1} {
		noTree(t, list(kind(k)))
		noTree(t, list(ip(), kind(k)))
		noTree(t, list(ip(), ip(), kind(k)))
		noTree(t, list(kind(k), ip()))
		noTree(t, list(kind(k), kind(api.NodeNot)))
		noTree(t, list(ip(), kind(k), kind(api.NodeAnd)))
		noTree(t, list(kind(k), ip(), kind(api.NodeAnd)))
	}
}

// Every short list of kinds with no part, with one, with two, and of none.
func TestShortLists(t *testing.T) {
	alphabet := list(number(0), ip(), kind(api.NodeMinus), kind(api.NodeNot), load(api.OfIP, 2), arith(api.OpDiv), rel(api.OpLe), kind(api.NodeOr), kind(0))
	var all func(l []api.Node, left int)
	all = func(l []api.Node, left int) {
		agrees(t, l)
		if left > 0 {
			for _, n := range alphabet {
				all(append(slices.Clone(l), n), left-1)
			}
		}
	}
	all(nil, 5)
}

// A tree's parts and its root are the tree, however deep it is.
func TestPartsTogether(t *testing.T) {
	chance := rand.New(rand.NewSource(6))
	for range 500 {
		g := grower{chance: chance, wrong: 10}
		g.truth(6)
		for _, l := range trees(t, g.l) {
			parts, ok := types.Parts(l)
			if !ok || !slices.Equal(slices.Concat(slices.Concat(parts...), l[len(l)-1:]), l) {
				t.Fatalf("P12.4: %s: %d parts, %v", told(l), len(parts), ok)
			}
		}
	}
	const deep = 1 << 16
	left := append(list(ip()), slices.Repeat(list(ip(), kind(api.NodeAnd)), deep)...)
	parted(t, left, left[:len(left)-2], list(ip()))
	right := slices.Concat(slices.Repeat(list(ip()), deep+1), slices.Repeat(list(kind(api.NodeAnd)), deep))
	parted(t, right, list(ip()), right[1:len(right)-1])
	parted(t, nots(deep, ip()), nots(deep-1, ip()))
}

// trees tells the tree and all that are in it.
func trees(t *testing.T, l []api.Node) [][]api.Node {
	t.Helper()
	parts, ok := types.Parts(l)
	if !ok {
		t.Fatalf("P12.4: %s is no tree", told(l))
	}
	out := [][]api.Node{l}
	for _, part := range parts {
		out = append(out, trees(t, part)...)
	}
	return out
}
