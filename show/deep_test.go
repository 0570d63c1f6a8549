package show_test

import (
	"slices"
	"strings"
	"testing"

	"riddle/api"
	"riddle/show"
)

var repeat = strings.Repeat

// eq tells a number compared to 1.
func eq(l []api.Node) []api.Node { return append(slices.Clone(l), number(1), rel(api.OpEq)) }

func nots(n int) []api.Node { return append(list(ip()), slices.Repeat(list(kind(api.NodeNot)), n)...) }
func minuses(n int) []api.Node {
	return append(list(number(7)), slices.Repeat(list(kind(api.NodeMinus)), n)...)
}

func TestDeepByNots(t *testing.T) {
	for _, n := range []int{1, 2, 3, 99, 100} {
		shows(t, nots(n), repeat("not ", n)+"ip", repeat("not (", n-1)+"not ip"+repeat(")", n-1))
	}
	for _, n := range []int{101, 102, 199, 200} {
		one(t, show.Show, "Show", nots(n), repeat("not ", n)+"ip")
		oneRefuses(t, show.Full, "Full", nots(n), api.ErrShowDeep)
	}
	for _, n := range []int{201, 202, 1000, 2988} {
		refuses(t, nots(n), api.ErrShowDeep)
	}
}

func TestDeepByMinuses(t *testing.T) {
	for _, n := range []int{1, 2, 3, 99} {
		shows(t, eq(minuses(n)), repeat("-", n)+"7 = 1", repeat("(-", n)+"7"+repeat(")", n)+" = 1")
	}
	// As the part of a comparison the whole of it stands in brackets, so that just MaxNest is reached.
	shows(t, eq(minuses(100)), repeat("-", 100)+"7 = 1", repeat("(-", 100)+"7"+repeat(")", 100)+" = 1")
	for _, n := range []int{101, 199, 200} {
		one(t, show.Show, "Show", eq(minuses(n)), repeat("-", n)+"7 = 1")
		oneRefuses(t, show.Full, "Full", eq(minuses(n)), api.ErrShowDeep)
	}
	for _, n := range []int{201, 202, 1400} {
		refuses(t, eq(minuses(n)), api.ErrShowDeep)
		refuses(t, append(append(list(number(1)), minuses(n)...), rel(api.OpLt)), api.ErrShowDeep)
	}
}

// Rows that bind from the left need no brackets in Show, however long they are.
func TestDeepByBracketsOnTheLeft(t *testing.T) {
	ways := func(n int) []api.Node {
		return append(list(way(api.SideSrc)), slices.Repeat(list(way(api.SideSrc), kind(api.NodeAnd)), n)...)
	}
	for _, n := range []int{2, 3, 200, 201} {
		shows(t, ways(n), "inbound"+repeat(" and inbound", n), repeat("(", n-1)+"inbound"+repeat(" and inbound)", n-1)+" and inbound")
	}
	for _, n := range []int{202, 203, 400} {
		one(t, show.Show, "Show", ways(n), "inbound"+repeat(" and inbound", n))
		oneRefuses(t, show.Full, "Full", ways(n), api.ErrShowDeep)
	}
	sums := func(n int) []api.Node {
		return eq(append(list(number(2)), slices.Repeat(list(number(2), arith(api.OpAdd)), n)...))
	}
	for _, n := range []int{1, 2, 199, 200} {
		shows(t, sums(n), "2"+repeat(" + 2", n)+" = 1", repeat("(", n)+"2"+repeat(" + 2)", n)+" = 1")
	}
	for _, n := range []int{201, 202, 400} {
		one(t, show.Show, "Show", sums(n), "2"+repeat(" + 2", n)+" = 1")
		oneRefuses(t, show.Full, "Full", sums(n), api.ErrShowDeep)
	}
}

// Rows that are put together from the right need brackets in both.
func TestDeepByBracketsOnTheRight(t *testing.T) {
	ways := func(n int) []api.Node {
		return slices.Concat(slices.Repeat(list(way(api.SideDst)), n+1), slices.Repeat(list(kind(api.NodeOr)), n))
	}
	for _, n := range []int{1, 2, 200, 201} {
		both(t, ways(n), repeat("outbound or (", n-1)+"outbound or outbound"+repeat(")", n-1))
	}
	for _, n := range []int{202, 203, 400} {
		refuses(t, ways(n), api.ErrShowDeep)
	}
	differences := func(n int) []api.Node {
		return eq(slices.Concat(slices.Repeat(list(number(2)), n+1), slices.Repeat(list(arith(api.OpSub)), n)))
	}
	for _, n := range []int{1, 2, 199, 200} {
		shows(t, differences(n), repeat("2 - (", n-1)+"2 - 2"+repeat(")", n-1)+" = 1", repeat("(2 - ", n)+"2"+repeat(")", n)+" = 1")
	}
	one(t, show.Show, "Show", differences(201), repeat("2 - (", 200)+"2 - 2"+repeat(")", 200)+" = 1")
	oneRefuses(t, show.Full, "Full", differences(201), api.ErrShowDeep)
	for _, n := range []int{202, 203, 400} {
		refuses(t, differences(n), api.ErrShowDeep)
	}
	// Of rows that bind stronger and stronger on the right nothing is needed in Show.
	one(t, show.Show, "Show", source(t, "1|2^3&4<<5+6*-7=8"), "1 | 2 ^ 3 & 4 << 5 + 6 * -7 = 8")
}

// By their weight alone at most 124 indexes stand in one another: each has a minus in it here, which Full too writes without brackets.
func TestDeepByIndexes(t *testing.T) {
	loads := func(n, more int) []api.Node {
		return eq(slices.Concat(list(number(7)), slices.Repeat(list(kind(api.NodeMinus)), more), slices.Repeat(list(kind(api.NodeMinus), load(api.OfIP, 2)), n)))
	}
	for _, n := range []int{1, 2, 99, 100} {
		both(t, loads(n, 0), repeat("ip[-", n)+"7"+repeat(":2]", n)+" = 1")
	}
	for n, more := range map[int]int{50: 100, 99: 2} {
		one(t, show.Show, "Show", loads(n, more), repeat("ip[-", n)+repeat("-", more)+"7"+repeat(":2]", n)+" = 1")
		oneRefuses(t, show.Full, "Full", loads(n, more), api.ErrShowDeep)
	}
	refuses(t, loads(50, 101), api.ErrShowDeep)
	refuses(t, loads(99, 3), api.ErrShowDeep)
	refuses(t, loads(100, 1), api.ErrShowDeep)
	refuses(t, loads(101, 0), api.ErrShowDeep)
	refuses(t, loads(110, 0), api.ErrShowDeep)

	// Indexes alone, as many as may be.
	alone := func(n int) []api.Node {
		return eq(append(list(number(7)), slices.Repeat(list(load(api.OfTCP, 1)), n)...))
	}
	both(t, alone(124), repeat("tcp[", 124)+"7"+repeat("]", 124)+" = 1")
	refuses(t, alone(125), api.ErrShowTree)

	// And with nots around them, which stay open till the comparison's end.
	denied := func(nots int) []api.Node { return append(alone(100), slices.Repeat(list(kind(api.NodeNot)), nots)...) }
	one(t, show.Show, "Show", denied(100), repeat("not ", 100)+repeat("tcp[", 100)+"7"+repeat("]", 100)+" = 1")
	one(t, show.Full, "Full", denied(50), repeat("not (", 50)+repeat("tcp[", 100)+"7"+repeat("]", 100)+" = 1"+repeat(")", 50))
	oneRefuses(t, show.Full, "Full", denied(51), api.ErrShowDeep)
	refuses(t, denied(101), api.ErrShowDeep)
}

// What counts is the deepest place, wherever it is, and what has come to its end counts no more.
func TestDeepestPlace(t *testing.T) {
	a, b := nots(200), nots(201)
	for _, k := range []int{api.NodeAnd, api.NodeOr} {
		sign := map[int]string{api.NodeAnd: " and ", api.NodeOr: " or "}[k]
		text := repeat("not ", 200) + "ip"
		one(t, show.Show, "Show", append(slices.Concat(a, a), kind(k)), text+sign+text)
		for _, l := range [][]api.Node{slices.Concat(a, b), slices.Concat(b, a), slices.Concat(list(ip()), b), slices.Concat(b, list(ip()))} {
			refuses(t, append(l, kind(k)), api.ErrShowDeep)
		}
		// One more pair of brackets around what is as deep as may be already.
		inner := append(slices.Concat(a, list(ip())), kind(k))
		refuses(t, append(slices.Clone(inner), kind(api.NodeNot)), api.ErrShowDeep)
		refuses(t, append(slices.Concat(list(ip()), inner), kind(k)), api.ErrShowDeep)
		one(t, show.Show, "Show", append(slices.Concat(inner, list(ip())), kind(k)), text+sign+"ip"+sign+"ip")
	}
	deep := nots(100)
	text := repeat("not (", 99) + "not ip" + repeat(")", 99)
	one(t, show.Full, "Full", append(slices.Concat(deep, deep), kind(api.NodeOr)), "("+text+") or ("+text+")")
	oneRefuses(t, show.Full, "Full", append(append(slices.Concat(deep, deep), kind(api.NodeOr)), kind(api.NodeNot)), api.ErrShowDeep)
	long := append(eq(minuses(200)), eq(minuses(200))...)
	one(t, show.Show, "Show", append(long, kind(api.NodeAnd)), repeat("-", 200)+"7 = 1 and "+repeat("-", 200)+"7 = 1")
	short := repeat("-", 200) + "7"
	one(t, show.Show, "Show", append(slices.Concat(minuses(200), minuses(200)), arith(api.OpSub), number(1), rel(api.OpEq)), short+" - "+short+" = 1")
	refuses(t, append(append(slices.Concat(minuses(200), minuses(200)), rel(api.OpEq)), kind(api.NodeNot)), api.ErrShowDeep)
}
