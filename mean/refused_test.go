package mean_test

import (
	"math"
	"slices"
	"testing"

	"riddle/api"
	"riddle/mean"
)

// refuses holds Judge and Match to an error, and to nothing beside it.
func refuses(t *testing.T, l []api.Node, link api.Link, way int, b []byte, want api.Errno) {
	t.Helper()
	if how, e := mean.Judge(l, link, way, b); how != 0 || e != want {
		t.Errorf("P14.1: %s, %+v, way %d, %.80x: %d, %d; want %d", told(l), link, way, b, how, e, want)
	}
	if match, e := mean.Match(l, link, way, b); match || e != want {
		t.Errorf("P14.2: %s, %+v, way %d, %.80x: %v, %d; want %d", told(l), link, way, b, match, e, want)
	}
}

// refusesValue holds Value to an error, and to nothing beside it.
func refusesValue(t *testing.T, l []api.Node, link api.Link, way int, b []byte, want api.Errno) {
	t.Helper()
	if v, how, e := mean.Value(l, link, way, b); v != 0 || how != 0 || e != want {
		t.Errorf("P14.3: %s, %+v, way %d, %.80x: %d, %d, %d; want %d", told(l), link, way, b, v, how, e, want)
	}
}

func wrongLinks() []api.Link {
	return []api.Link{{MP: -1}, {MP: 3}, {MP: math.MinInt}, {MP: math.MaxInt}, {ACFC: true, PFC: true, MP: 256}, {PFC: true, MP: 1 << 32}}
}

func wrongWays() []int { return []int{-1, 2, 3, 256, 1 << 32, math.MinInt, math.MaxInt} }

// someFrames tells well-formed bytes and others.
func someFrames() [][]byte {
	return [][]byte{f(), nil, {}, {0xff}, {0xff, 3, 0xc0, 0x21}, make([]byte, api.MaxFrame+1), behind(f(), api.MaxFrame)}
}

// noTrees tells lists that are neither filters nor numbers.
func noTrees() [][]api.Node {
	one := number(1)
	return [][]api.Node{
		nil, {}, list(ip(), ip()), list(one, one), list(one, ip()), list(ip(), one), list(kind(api.NodeAnd)), list(kind(api.NodeNot)), list(ip(), kind(api.NodeAnd)), list(one, rel(api.OpEq)), list(load(api.OfIP, 1)), list(arith(api.OpAdd)), list(kind(api.NodeMinus)),
		list(kind(0)), list(kind(-1)), list(kind(17)), list(kind(math.MaxInt)), list(ip(), kind(17)), list(one, kind(17)), list(one, one, kind(99)),
		list(api.Node{Kind: api.NodeWord, Of: api.OfIP, N: 1}), list(api.Node{Kind: api.NodeLen, N: 1}), list(api.Node{Kind: api.NodeNumber, M: 1}), list(one, api.Node{Kind: api.NodeMinus, Op: 1}), list(api.Node{Kind: api.NodePort, Size: 1}),
		list(word(api.OfPPP)), list(word(api.OfAny)), list(word(14)), list(goes(api.SideAny)), list(goes(3)), list(next(api.OfTCP, 1)), list(host(api.OfTCP, 0)), list(host(api.OfIP, 3)), list(host(api.OfIP, 0, 1, 2, 3, 4, 5)), list(port(api.OfIP, 0, 1, 1)), list(port(api.OfTCP, 3, 1, 1)),
		list(one, load(api.OfMP, 1)), list(one, load(api.OfAny, 1)), list(one, one, arith(0)), list(one, one, arith(11)), list(one, one, rel(0)), list(one, one, rel(7)),
		list(ip(), kind(api.NodeMinus)), list(ip(), load(api.OfIP, 1)), list(one, ip(), arith(api.OpAdd)), list(one, ip(), rel(api.OpEq)), list(one, kind(api.NodeNot)), list(ip(), one, kind(api.NodeAnd)), list(one, ip(), kind(api.NodeOr)),
		list(one, number(0), arith(api.OpDiv)), list(one, number(0), arith(api.OpMod)), list(one, one, one, arith(api.OpSub), arith(api.OpDiv)), list(one, number(0), arith(api.OpDiv), one, rel(api.OpEq)),
		list(one, load(api.OfIP, 0)), list(one, load(api.OfIP, 3)), list(one, load(api.OfIP, 8)), list(proto(65536)), list(next(api.OfIP, 256)), list(port(0, 0, 0, 65536)), list(port(0, 0, 9, 1)), list(net(api.OfIP, 0, 33)), list(net(api.OfIP, 0, -1)), list(net(api.OfIP6, 0, 129)), list(net(api.OfIP, 0, 8, 10, 1)),
	}
}

// The list counts ahead of the link, the link ahead of the way, and all of them ahead of what the bytes are.
func TestRefused(t *testing.T) {
	someLinks := slices.Concat(links(), wrongLinks())
	someWays := slices.Concat(ways(), wrongWays())
	filter, sum := source(t, "ip and len > 5"), source(t, "len + 1")
	for _, b := range someFrames() {
		for _, link := range someLinks {
			for _, way := range someWays {
				want := api.OK
				if !slices.Contains(ways(), way) {
					want = api.ErrMeanWay
				}
				if !slices.Contains(links(), link) {
					want = api.ErrMeanLink
				}
				if want != api.OK {
					refuses(t, filter, link, way, b, want)
					refusesValue(t, sum, link, way, b, want)
				}
				refuses(t, sum, link, way, b, api.ErrMeanTree)
				refusesValue(t, filter, link, way, b, api.ErrMeanTree)
				refuses(t, nil, link, way, b, api.ErrMeanTree)
				refusesValue(t, nil, link, way, b, api.ErrMeanTree)
			}
		}
	}
}

func TestNoTrees(t *testing.T) {
	for _, l := range noTrees() {
		for _, way := range []int{api.WayIn, api.WayOut, 2} {
			for _, link := range []api.Link{{}, {MP: 3}} {
				for _, b := range [][]byte{f(), nil} {
					refuses(t, l, link, way, b, api.ErrMeanTree)
					refusesValue(t, l, link, way, b, api.ErrMeanTree)
				}
			}
		}
	}
}

// A number is no filter, and a filter no number: neither is what Value looks for behind it.
func TestFiltersAndNumbers(t *testing.T) {
	for _, s := range []string{"0", "len", "ip[0]", "1 + 1", "-1", "len / len", "tcp[ip[0]]"} {
		l := source(t, s)
		refuses(t, l, plain(), 0, f(), api.ErrMeanTree)
		refusesValue(t, equals(l), plain(), 0, f(), api.ErrMeanTree)
		if _, _, e := mean.Value(l, plain(), 0, f()); e != api.OK {
			t.Errorf("P14.3: %q: %d", s, e)
		}
	}
	for _, s := range []string{"ip", "inbound", "1 = 1", "not ip", "ip and ip", "ip or ip", "port 5", "host 1.2.3.4", "net ::/0", "proto 5", "ip proto 5"} {
		l := source(t, s)
		refusesValue(t, l, plain(), 0, f(), api.ErrMeanTree)
		if _, e := mean.Judge(l, plain(), 0, f()); e != api.OK {
			t.Errorf("P14.1: %q: %d", s, e)
		}
	}
	// Two numbers ahead of a relation are one tree, a number behind them is one more.
	refusesValue(t, list(number(1), number(1)), plain(), 0, f(), api.ErrMeanTree)
	refusesValue(t, list(ip(), number(1)), plain(), 0, f(), api.ErrMeanTree)
	refusesValue(t, list(number(1), ip()), plain(), 0, f(), api.ErrMeanTree)
}

// A filter weighs MaxWeight at most; a number 9 less, since it is weighed with what stands behind it.
func TestWeight(t *testing.T) {
	heavy := append(list(ip()), nots(2988)...)
	says(t, heavy, plain(), 0, f(), yes)
	refuses(t, append(heavy, kind(api.NodeNot)), plain(), 0, f(), api.ErrMeanTree)
	sum := append(list(number(5)), minuses(1495)...)
	comesTo(t, sum, plain(), f(), 4294967291, yes)
	refusesValue(t, append(sum, kind(api.NodeMinus)), plain(), 0, f(), api.ErrMeanTree)
	even := append(list(kind(api.NodeLen)), minuses(1494)...)
	comesTo(t, even, plain(), f(), 28, yes)
	refusesValue(t, append(even, kind(api.NodeMinus)), plain(), 0, f(), api.ErrMeanTree)
	deep := append(list(number(0)), slices.Repeat(list(load(api.OfPPP, 1)), 124)...)
	comesTo(t, deep, plain(), joined(fromHex("ff 03 c0 21"), make([]byte, 300)), 0, yes)
	refusesValue(t, append(deep, load(api.OfPPP, 1)), plain(), 0, f(), api.ErrMeanTree)
}

// Lists of a size that no filter has come to an end too.
func TestGreatLists(t *testing.T) {
	for _, l := range [][]api.Node{slices.Repeat(list(ip()), 1<<18), slices.Repeat(list(number(1)), 1<<18), append(list(ip()), nots(1<<16)...), append(list(number(1)), minuses(1<<16)...)} {
		refuses(t, l, plain(), 0, f(), api.ErrMeanTree)
		refusesValue(t, l, plain(), 0, f(), api.ErrMeanTree)
	}
}
