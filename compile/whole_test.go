package compile_test

import (
	"math/rand"
	"strconv"
	"strings"
	"testing"

	"riddle/api"
	"riddle/compile"
	"riddle/frame"
	"riddle/parse"
	"riddle/types"
)

// writer writes sources by chance, of such things as frames of these tests have; there is a blank between any two tokens.
type writer struct{ *rand.Rand }

func (w writer) one(some ...string) string { return some[w.Intn(len(some))] }

// blank tells what may stand between two tokens.
func (w writer) blank() string { return w.one(" ", " ", " ", "  ", "\t", "\n", "\r\n ") }

func (w writer) join(parts ...string) string {
	var out strings.Builder
	for at, part := range parts {
		if at > 0 {
			out.WriteString(w.blank())
		}
		out.WriteString(part)
	}
	return out.String()
}

// around puts brackets around a part, or does not: it may be read otherwise then, but as the same kind of thing.
func (w writer) around(s string) string {
	for w.Intn(2) == 0 {
		s = w.join("(", s, ")")
	}
	return s
}

func (w writer) constant() string {
	return w.one("0", "1", "2", "0x4", "5", "9", "17", "20", "31", "32", "0x21", "255", "0x45", "4294967295", strconv.Itoa(w.Intn(1<<32)))
}

func (w writer) number(depth int) string {
	pick := w.Intn(9)
	switch {
	case depth > 0 && pick < 3:
		return w.join(w.around(w.number(depth-1)), w.one("+", "-", "*", "/", "%", "&", "|", "^", "<<", ">>"), w.around(w.number(depth-1)))
	case depth > 0 && pick == 3:
		return w.join("-", w.around(w.number(depth-1)))
	case depth > 0 && pick < 7:
		name := w.one("ppp", "ppp", "ip", "ip", "ip6", "tcp", "udp", "icmp", "icmp6", "lcp", "pap", "chap", "ipcp", "ip6cp")
		size := w.one("", "", w.join(":", w.one("1", "2", "4", "0x2")))
		return w.join(name, "[", w.number(depth-1), size, "]")
	case pick == 7:
		return "len"
	}
	return w.constant()
}

func (w writer) truth(depth int) string {
	pick := w.Intn(12)
	switch {
	case depth > 0 && pick < 4:
		return w.join(w.around(w.truth(depth-1)), w.one("and", "or", "&&", "||"), w.around(w.truth(depth-1)))
	case depth > 0 && pick < 5:
		return w.join(w.one("not", "!"), w.around(w.truth(depth-1)))
	case depth > 0 && pick < 9:
		return w.join(w.around(w.number(depth-1)), w.one("=", "==", "!=", "<", "<=", ">", ">="), w.around(w.number(depth-1)))
	}
	return w.leaf()
}

func (w writer) leaf() string {
	side := w.one("", "src", "dst")
	port := w.one("53", "54", "80", strconv.Itoa(w.Intn(65536)))
	switch w.Intn(8) {
	case 0:
		return w.one("ip", "ip6", "tcp", "udp", "icmp", "icmp6", "lcp", "pap", "chap", "ipcp", "ip6cp", "mp")
	case 1:
		return w.one("inbound", "outbound")
	case 2:
		return w.join("proto", w.one("0x21", "0x57", "61", "0xc021", "0xc023", "0xc223", "0x8021", "0x8057", strconv.Itoa(w.Intn(65536))))
	case 3:
		return w.join(w.one("ip", "ip6"), "proto", w.one("1", "6", "17", "58", strconv.Itoa(w.Intn(256))))
	case 4:
		return w.join(side, "host", w.one("1.2.3.4", "5.6.7.8", "5.6.7.9", "102:304:506:708:90a:b0c:d0e:f10", "1112:1314:1516:1718:191a:1b1c:1d1e:1f20", "::"))
	case 5:
		return w.join(side, "net", w.one("1.2.3.4 / 32", "5.0.0.0/8", "4.0.0.0/7", "0.0.0.0/0", "102:304::/32", "1112:1314:1516:1718:191a:1b1c:1d1e:1f00/120", "1112:1314:1516:1718::/67", "::/0"))
	case 6:
		return w.join(w.one("", "tcp", "udp"), side, "port", port)
	}
	return w.join(w.one("", "tcp", "udp"), side, "portrange", port, "-", w.one(port, "65535"))
}

// written tells a source by chance that is a filter, and its tree.
func written(chance *rand.Rand, depth int) (string, []api.Node) {
	w := writer{chance}
	for {
		s := w.truth(depth)
		// A divisor may have come to be 0, and the whole too heavy or too deep.
		l, _, _, e := parse.Parse(s)
		if _, typed := types.Check(l); e == api.OK && typed == api.OK {
			return s, l
		}
	}
}

// answer tells the place and the error that the layers tell of a source.
func answer(s string, link api.Link) (int, api.Errno) {
	if frame.Check(link) != api.OK {
		return 0, api.ErrCompileLink
	}
	l, places, place, e := parse.Parse(s)
	if e != api.OK {
		return place, e
	}
	node, e := types.Check(l)
	if e != api.OK {
		return places[node], e
	}
	return 0, api.OK
}

// spoiled tells frames with something about them changed by chance.
func spoiled(chance *rand.Rand, frames [][]byte) [][]byte {
	var out [][]byte
	for _, b := range frames {
		switch chance.Intn(5) {
		case 0:
			b = b[:chance.Intn(len(b)+1)]
		case 1:
			b = joined(b, make([]byte, chance.Intn(100)))
		case 2:
			for range chance.Intn(4) {
				b = at(b, chance.Intn(len(b)), byte(chance.Intn(256)))
			}
		}
		out = append(out, b)
	}
	return out
}

// Sources by chance, over frames by chance, on every link.
func TestByChance(t *testing.T) {
	t.Parallel()
	chance := rand.New(rand.NewSource(19))
	frames := map[api.Link][][]byte{}
	for _, link := range links() {
		frames[link] = wellFormed(link)
	}
	var n tally
	for i := range 6000 {
		link := links()[i%12]
		s, l := written(chance, i%7)
		some := oneOf(113, chance.Intn(113), frames[link])
		n.agrees(t, ofSource(t, s, link), l, link, spoiled(chance, some)...)
	}
	n.enough(t, 10000)
}

// garbled tells a source with tokens of it lost, doubled, exchanged, cut off or put in the place of others.
func garbled(chance *rand.Rand, s string) string {
	words := strings.Fields(s)
	for range 1 + chance.Intn(2) {
		from, to := chance.Intn(len(words)), chance.Intn(len(words))
		switch chance.Intn(7) {
		case 0:
			words[from] = words[from][:len(words[from])/2]
		case 1:
			words[from] += " " + words[to]
		case 2, 3:
			words[from], words[to] = words[to], words[from]
		case 4:
			words[from] = words[to]
		case 5:
			words[from] = ""
		case 6:
			more := []string{"(", ")", "[", "]", ":", "-", "not", "0", "ip", "len", ";", "007", "foo", "1.2", "::", "99999"}
			words[from] = more[chance.Intn(len(more))]
		}
	}
	return strings.Join(words, " ")
}

// Sources by chance with something wrong: the error and place are those that lex, parse and types tell; and a program stands where they tell none.
func TestGarbled(t *testing.T) {
	t.Parallel()
	chance := rand.New(rand.NewSource(91))
	seen := map[api.Errno]int{}
	for i := range 15000 {
		s, _ := written(chance, 1+i%4)
		s = garbled(chance, s)
		link := links()[i%12]
		if i%50 == 0 {
			link = noLinks()[i/50%len(noLinks())]
		}
		place, e := answer(s, link)
		seen[e]++
		if e == api.OK {
			ofSource(t, s, link)
			continue
		}
		refuses(t, s, link, place, e)
	}
	for _, e := range []api.Errno{api.OK, api.ErrLexByte, api.ErrLexNumber, api.ErrParseEnd, api.ErrParseToken, api.ErrParseAddr, api.ErrTypeBool, api.ErrTypeNumber, api.ErrTypeRange, api.ErrCompileLink} {
		if seen[e] < 20 {
			t.Errorf("only %d sources were %d", seen[e], e)
		}
	}
}

// Bytes by chance, lists by chance.
func TestAnything(t *testing.T) {
	t.Parallel()
	chance := rand.New(rand.NewSource(99))
	for i := range 20000 {
		b := make([]byte, chance.Intn(12))
		for at := range b {
			b[at] = byte(chance.Intn(256))
			if i%2 == 0 {
				b[at] = "ip!()-1=[]&|0<len"[chance.Intn(17)]
			}
		}
		place, e := answer(string(b), plain())
		if p, gotPlace, got := compile.Compile(string(b), plain()); gotPlace != place || got != e || (len(p) == 0) != (e != api.OK) {
			t.Errorf("P19.1: %q: %d, %d; want %d, %d", b, gotPlace, got, place, e)
		}
	}
	for range 20000 {
		var l []api.Node
		for range chance.Intn(6) {
			l = append(l, api.Node{Kind: chance.Intn(18), Op: chance.Intn(3) / 2, N: uint32(chance.Intn(3) / 2), M: uint32(chance.Intn(4) / 3), Size: chance.Intn(5) / 4, Of: chance.Intn(3) - chance.Intn(2), Side: chance.Intn(6) / 4})
		}
		_, e := types.Check(l)
		if p, got := compile.Tree(l, plain()); got != e || (len(p) == 0) != (e != api.OK) {
			t.Errorf("P19.2: %v: %d; want %d", told(l), got, e)
		}
	}
}
