package parse_test

import (
	"math/rand"
	"slices"
	"strings"
	"testing"

	"riddle/api"
	"riddle/lex"
	"riddle/parse"
)

// sentence is a source that is grown along the grammar, with the tree that comes of it.
type sentence struct {
	chance *rand.Rand
	tokens []string
	tree   []api.Node
	makers []int    // of each node the token that makes it
	spans  [][2]int // the first token of each whole part, and the one behind its last
}

func (s *sentence) token(text string) int {
	s.tokens = append(s.tokens, text)
	return len(s.tokens) - 1
}

func (s *sentence) node(maker int, n api.Node) {
	s.tree = append(s.tree, n)
	s.makers = append(s.makers, maker)
}

func (s *sentence) one(list ...string) string { return list[s.chance.Intn(len(list))] }

// whole notes that what stands from a token on is a whole part.
func (s *sentence) whole(from int) { s.spans = append(s.spans, [2]int{from, len(s.tokens)}) }

// grow adds what a row of the grammar may make, with at most so many brackets in one another.
func (s *sentence) grow(row, depth int) {
	from := len(s.tokens)
	switch {
	case row > rowMinus:
		s.part(depth)
	case row == rowNot && s.chance.Intn(6) == 0:
		s.unary(s.one("not", "!"), api.NodeNot, rowNot, depth)
	case row == rowMinus && s.chance.Intn(6) == 0:
		s.unary("-", api.NodeMinus, rowMinus, depth)
	default:
		s.grow(row+1, depth)
		s.further(row, from, depth)
	}
	s.whole(from)
}

func (s *sentence) unary(text string, kind, row, depth int) {
	maker := s.token(text)
	s.grow(row, depth)
	s.node(maker, api.Node{Kind: kind})
}

// further adds operators of the row, and the parts behind them.
func (s *sentence) further(row, from, depth int) {
	var mine []operator
	for _, o := range operators() {
		if o.row == row {
			mine = append(mine, o)
		}
	}
	for len(mine) > 0 && s.chance.Intn(9) == 0 {
		s.whole(from)
		o := mine[s.chance.Intn(len(mine))]
		maker := s.token(o.text)
		s.grow(row+1, depth)
		s.node(maker, o.node)
		if row == rowRel {
			return
		}
	}
}

func (s *sentence) part(depth int) {
	inner := s.chance.Intn(8)
	switch {
	case depth > 0 && inner == 0:
		s.token("(")
		s.grow(rowOr, depth-1)
		s.token(")")
	case depth > 0 && inner <= 2:
		s.load(depth)
	default:
		s.leaf()
	}
}

func (s *sentence) load(depth int) {
	name := s.one("ppp", "ip", "ip6", "tcp", "udp", "icmp", "icmp6", "lcp", "pap", "chap", "ipcp", "ip6cp")
	maker := s.token(name)
	s.token("[")
	s.grow(rowOr, depth-1)
	node := load(names()[name], 1)
	if s.chance.Intn(2) == 0 {
		s.token(":")
		node.Size = 4
		s.token("4")
	}
	s.token("]")
	s.node(maker, node)
}

// leaf adds one of the parts that have no parts.
func (s *sentence) leaf() {
	leaves := []struct {
		text string
		node api.Node
	}{
		{"5", number(5)}, {"0xffffffff", number(1<<32 - 1)}, {"len", kind(api.NodeLen)},
		{"inbound", way(api.SideSrc)}, {"outbound", way(api.SideDst)},
		{"proto 33", proto(33)}, {"ip proto 6", next(api.OfIP, 6)}, {"ip6 proto 58", next(api.OfIP6, 58)},
		{"ip", word(api.OfIP)}, {"ip6", word(api.OfIP6)}, {"tcp", word(api.OfTCP)}, {"udp", word(api.OfUDP)}, {"icmp", word(api.OfICMP)}, {"icmp6", word(api.OfICMP6)},
		{"lcp", word(api.OfLCP)}, {"pap", word(api.OfPAP)}, {"chap", word(api.OfCHAP)}, {"ipcp", word(api.OfIPCP)}, {"ip6cp", word(api.OfIP6CP)}, {"mp", word(api.OfMP)},
		{"host 1.2.3.4", host(api.OfIP, api.SideAny, 1, 2, 3, 4)}, {"src host ::", host(api.OfIP6, api.SideSrc)}, {"dst host a::", host(api.OfIP6, api.SideDst, 0, 10)},
		{"net 10.0.0.0 / 8", net(api.OfIP, api.SideAny, 8, 10)}, {"src net 1.2.3.4 / 32", net(api.OfIP, api.SideSrc, 32, 1, 2, 3, 4)}, {"dst net fe80:: / 10", net(api.OfIP6, api.SideDst, 10, 0xfe, 0x80)},
		{"port 53", port(api.OfAny, api.SideAny, 53, 53)}, {"dst port 1", port(api.OfAny, api.SideDst, 1, 1)}, {"src portrange 1 - 9", port(api.OfAny, api.SideSrc, 1, 9)},
		{"tcp port 80", port(api.OfTCP, api.SideAny, 80, 80)}, {"tcp dst portrange 9 - 1", port(api.OfTCP, api.SideDst, 9, 1)},
		{"udp src port 0", port(api.OfUDP, api.SideSrc, 0, 0)}, {"udp portrange 2 - 3", port(api.OfUDP, api.SideAny, 2, 3)},
	}
	leaf := leaves[s.chance.Intn(len(leaves))]
	maker := len(s.tokens)
	for _, text := range strings.Fields(leaf.text) {
		s.token(text)
	}
	s.node(maker, leaf.node)
}

func grown(chance *rand.Rand) *sentence {
	s := &sentence{chance: chance}
	s.grow(rowOr, 3)
	return s
}

// blanks tells blanks of all kinds, at least so many.
func (s *sentence) blanks(least int) string {
	var out string
	for range least + s.chance.Intn(3) {
		out += s.one(" ", "\t", "\n", "\r")
	}
	return out
}

// wide tells a source of the tokens with blanks of all kinds, and the tokens' places.
func (s *sentence) wide(tokens []string) (string, []int) {
	out := s.blanks(0)
	var at []int
	for _, token := range tokens {
		at = append(at, len(out))
		out += token + s.blanks(1)
	}
	return out, at
}

// close tells a source of the tokens with blanks only where they must stand, and the tokens' places.
func (s *sentence) close(t *testing.T, tokens []string) (string, []int) {
	out := ""
	var at []int
	for i, token := range tokens {
		read, _, e := lex.Lex(out + token)
		if e != api.OK || len(read) != i+2 || read[i].Text != token || i > 0 && read[i-1].Text != tokens[i-1] {
			out += " "
		}
		at = append(at, len(out))
		out += token
	}
	read, _, e := lex.Lex(out)
	for i, token := range tokens {
		if e != api.OK || read[i].Text != token {
			t.Fatalf("%q does not hold %q", out, tokens)
		}
	}
	return out, at
}

// bracketed tells the tokens with brackets around some whole parts, and where each of the old ones stands then.
func (s *sentence) bracketed(spans ...[2]int) (tokens []string, now []int) {
	put := func(text string, end, at int) {
		for _, span := range spans {
			if span[end] == at {
				tokens = append(tokens, text)
			}
		}
	}
	for i, token := range s.tokens {
		put(")", 1, i)
		put("(", 0, i)
		now = append(now, len(tokens))
		tokens = append(tokens, token)
	}
	put(")", 1, len(s.tokens))
	return tokens, now
}

// turned tells the tokens with words in the place of signs, and signs in the place of words.
func (s *sentence) turned() []string {
	other := map[string]string{"and": "&&", "&&": "and", "or": "||", "||": "or", "not": "!", "!": "not", "=": "==", "==": "="}
	out := slices.Clone(s.tokens)
	for i, token := range out {
		if text, ok := other[token]; ok {
			out[i] = text
		}
	}
	return out
}

// places tells where the nodes' tokens stand.
func (s *sentence) places(at []int) []int { return picked(at, s.makers...) }

func TestSentences(t *testing.T) {
	chance := rand.New(rand.NewSource(1))
	for range 3000 {
		s := grown(chance)
		isTree(t, s.tree)
		text, at := joined(s.tokens...)
		gives(t, text, s.tree, s.places(at))
		text, at = s.wide(s.tokens)
		gives(t, text, s.tree, s.places(at))
		if len(s.tokens) < 60 {
			text, at = s.close(t, s.tokens)
			gives(t, text, s.tree, s.places(at))
		}
		text, at = joined(s.turned()...)
		gives(t, text, s.tree, s.places(at))
		var some [][2]int
		for range 3 {
			some = append(some, s.spans[chance.Intn(len(s.spans))])
		}
		tokens, now := s.bracketed(some...)
		text, at = s.wide(tokens)
		gives(t, text, s.tree, s.places(picked(at, now...)))
	}
}

// Brackets around each whole part alone, around it twice, and around all at once.
func TestBracketsAroundEachPart(t *testing.T) {
	chance := rand.New(rand.NewSource(7))
	for range 120 {
		s := grown(chance)
		for _, span := range s.spans {
			for _, some := range [][][2]int{{span}, {span, span}} {
				tokens, now := s.bracketed(some...)
				text, at := joined(tokens...)
				gives(t, text, s.tree, s.places(picked(at, now...)))
			}
		}
		slices.SortFunc(s.spans, func(a, b [2]int) int { return slices.Compare(a[:], b[:]) })
		tokens, now := s.bracketed(slices.Compact(s.spans)...)
		text, at := joined(tokens...)
		gives(t, text, s.tree, s.places(picked(at, now...)))
	}
}

// Whatever a sentence is cut behind, only what would follow can be lacking.
func TestSentencesCut(t *testing.T) {
	chance := rand.New(rand.NewSource(5))
	for range 500 {
		s := grown(chance)
		for count := range s.tokens {
			text, _ := joined(s.tokens[:count]...)
			tree, at, place, e := parse.Parse(text)
			if e == api.ErrParseEnd && place == len(text) && len(tree) == 0 && len(at) == 0 {
				continue
			}
			if e != api.OK || place != 0 || len(tree) != len(at) {
				t.Errorf("P11.1: %q: %d, %d", text, place, e)
			}
			isTree(t, tree)
		}
	}
}

// isTree holds a list to be a tree: each node finds its parts, and one is left.
func isTree(t *testing.T, list []api.Node) {
	t.Helper()
	trees := 0
	for _, n := range list {
		parts := 0
		switch n.Kind {
		case api.NodeLoad, api.NodeMinus, api.NodeNot:
			parts = 1
		case api.NodeArith, api.NodeRel, api.NodeAnd, api.NodeOr:
			parts = 2
		}
		if n.Kind < api.NodeNumber || n.Kind > api.NodePort || trees < parts {
			t.Fatalf("P11.2: %s is no tree", told(list, nil))
		}
		trees += 1 - parts
	}
	if trees != 1 {
		t.Fatalf("P11.2: %s is %d trees", told(list, nil), trees)
	}
}

// Whatever bytes come: a tree, or an error with a place in the source and nothing beside it.
func TestAnyBytes(t *testing.T) {
	chance := rand.New(rand.NewSource(3))
	pieces := append(everyToken(), " ", " ", "", "$", "007", "A", "\x00", "\xff")
	for i := range 60000 {
		var s string
		for range chance.Intn(12) {
			if i%4 == 0 {
				s += string([]byte{byte(chance.Intn(256))})
			} else {
				s += pieces[chance.Intn(len(pieces))] + strings.Repeat(" ", chance.Intn(2))
			}
		}
		tree, at, place, e := parse.Parse(s)
		_, lexPlace, lexError := lex.Lex(s)
		switch {
		case lexError != api.OK:
			if e != lexError || place != lexPlace || len(tree) != 0 || len(at) != 0 {
				t.Errorf("P11.1: %q: %d, %d; lex: %d, %d", s, place, e, lexPlace, lexError)
			}
		case e != api.OK:
			if e < api.ErrParseEnd || e > api.ErrParseAddr || place < 0 || place > len(s) || (place == len(s)) != (e == api.ErrParseEnd) || len(tree) != 0 || len(at) != 0 {
				t.Errorf("P11.1: %q: %d nodes, %d, %d", s, len(tree), place, e)
			}
		default:
			isTree(t, tree)
			if place != 0 || len(at) != len(tree) {
				t.Errorf("P11.1: %q: %d places, %d", s, len(at), place)
			}
		}
	}
}

func TestMemory(t *testing.T) {
	for _, s := range []string{"ip", "ip and not udp", "ip[2:2]+1 > len", "src net fe80::/16 or port 5", strings.Repeat("ip or ", 999) + "ip"} {
		tree, at, _, _ := parse.Parse(s)
		wantTree, wantAt := slices.Clone(tree), slices.Clone(at)
		same := func(tree []api.Node, at []int, why string) {
			if !slices.Equal(tree, wantTree) || !slices.Equal(at, wantAt) {
				t.Errorf("R3: %.20q: %s", s, why)
			}
		}
		other, places, _, _ := parse.Parse(s)
		other, places = other[:cap(other)], places[:cap(places)]
		for i := range other {
			other[i] = api.Node{Kind: 77, N: 77}
		}
		for i := range places {
			places[i] = -77
		}
		same(tree, at, "two answers share memory")
		again, againAt, _, _ := parse.Parse(s)
		same(again, againAt, "an answer hangs on what was written into an earlier one")
		parse.Parse("not " + s)
		parse.Parse(s + ")")
		parse.Parse("host 1.2")
		same(tree, at, "a later call changed an answer")
		same(again, againAt, "a later call changed an answer")
	}
}

func BenchmarkParse(b *testing.B) {
	for name, s := range map[string]string{
		"words":    "ip" + strings.Repeat(" or ip", (api.MaxSource-2)/6),
		"sums":     "1" + strings.Repeat("+1", (api.MaxSource-1)/2),
		"brackets": strings.Repeat(strings.Repeat("(", 200)+"1"+strings.Repeat(")", 200)+"+", 163) + "1",
		"loads":    strings.Repeat(strings.Repeat("ip[", 150)+"1"+strings.Repeat("]", 150)+"+", 100) + "1",
	} {
		b.Run(name, func(b *testing.B) {
			for b.Loop() {
				parse.Parse(s)
			}
		})
	}
}
