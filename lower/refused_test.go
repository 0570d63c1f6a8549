package lower_test

import (
	"slices"
	"testing"

	"riddle/api"
	"riddle/lower"
)

// refuses holds Lower to an error, beside which it tells nothing.
func refuses(t *testing.T, l []api.Node, link api.Link, want api.Errno) {
	t.Helper()
	if g, e := lower.Lower(l, link); e != want || len(g) != 0 {
		t.Errorf("P16.1: %s, %+v: %d blocks, %d; want %d", told(l), link, len(g), e, want)
	}
}

// noFilters tells lists of each kind that types refuses.
func noFilters(t *testing.T) [][]api.Node {
	out := [][]api.Node{
		nil, {}, list(kind(0)), list(kind(17)), list(kind(-1)), list(word(api.OfIP), word(api.OfIP)), list(kind(api.NodeAnd)), list(word(api.OfIP), kind(api.NodeOr)), list(kind(api.NodeNot)), list(load(api.OfIP, 1)),
		list(word(api.OfPPP)), list(word(api.OfAny)), list(word(14)), list(goes(api.SideAny)), list(goes(3)), list(next(api.OfTCP, 6)), list(api.Node{Kind: api.NodeWord, Of: api.OfIP, N: 1}), list(host(api.OfIP, 0, 1, 2, 3, 4, 5)), list(net(api.OfIP6, 3, 8)),
		list(number(1), number(1), rel(7)), list(number(1), number(1), arith(11), number(1), rel(1)), list(number(1), load(api.OfMP, 1), number(1), rel(1)),
		slices.Concat(list(word(api.OfIP)), many(2989, kind(api.NodeNot))), slices.Concat(list(word(api.OfIP)), many(5000, kind(api.NodeNot))),
	}
	for _, s := range []string{"len", "0", "ip[0]", "ip + 1 = 2", "not 5", "ip = 1", "ip and 1", "1 or ip", "-ip = 0", "ip[ip] = 0", "len / (1 - 1) = 0", "1 % 0 = 1 or ip", "ip[0:3] = 1", "port 70000", "portrange 9-1", "net 10.0.0.1/8", "net 0.0.0.0/33", "net ::/129", "proto 65536", "ip proto 256"} {
		out = append(out, source(t, s))
	}
	return out
}

// noLinks tells links that may not be.
func noLinks() []api.Link {
	return []api.Link{{MP: 3}, {MP: 7}, {MP: -1}, {ACFC: true, MP: 4}, {PFC: true, MP: 1 << 32}, {ACFC: true, PFC: true, MP: -1 << 63}, {MP: 1<<63 - 1}}
}

func TestRefused(t *testing.T) {
	for _, l := range noFilters(t) {
		for _, link := range links() {
			refuses(t, l, link, api.ErrLowerTree)
		}
		// What is wrong with the list counts ahead of what is wrong with the link.
		for _, link := range noLinks() {
			refuses(t, l, link, api.ErrLowerTree)
		}
	}
	heaviest := slices.Concat(list(word(api.OfIP)), many(2988, kind(api.NodeNot)))
	for _, l := range [][]api.Node{source(t, "ip"), source(t, "1 = 1"), source(t, "len / (len - len) = 0"), source(t, "host 1::2 or not port 5"), heaviest} {
		for _, link := range noLinks() {
			refuses(t, l, link, api.ErrLowerLink)
		}
		for _, link := range links() {
			lowered(t, l, link)
		}
	}
}

// Lists that are far greater than a filter can be come to an end too.
func TestGreatLists(t *testing.T) {
	refuses(t, many(1<<20, port(0, 0, 1, 1)), plain(), api.ErrLowerTree)
	refuses(t, slices.Concat(list(word(api.OfIP)), many(1<<16-1, kind(api.NodeNot))), plain(), api.ErrLowerTree)
	refuses(t, slices.Concat(many(1<<18, number(1)), many(1<<18-1, arith(api.OpDiv)), list(number(1), rel(api.OpEq))), plain(), api.ErrLowerTree)
}
