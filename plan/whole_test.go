package plan_test

import (
	"fmt"
	"math/rand"
	"testing"

	"riddle/api"
	"riddle/parse"
	"riddle/types"
)

// writer writes filters by chance, of such things as the frames of these tests have.
type writer struct{ *rand.Rand }

func (w writer) one(some ...string) string { return some[w.Intn(len(some))] }

func (w writer) number(depth int) string {
	switch pick := w.Intn(8); {
	case depth > 0 && pick < 2:
		return "(" + w.number(depth-1) + w.one(" + ", " - ", " * ", " / ", " % ", " & ", " | ", " ^ ", " << ", " >> ") + w.number(depth-1) + ")"
	case depth > 0 && pick < 6:
		return w.one("ppp", "ppp", "ip", "ip", "ip6", "tcp", "udp", "icmp", "lcp", "chap") + "[" + w.number(depth-1) + w.one("", "", ":2", ":4") + "]"
	case pick == 6:
		return "len"
	}
	return w.one("0", "1", "2", "3", "5", "9", "17", "33", "53", "255", "4294967295")
}

func (w writer) truth(depth int) string {
	pick := w.Intn(10)
	switch {
	case depth > 0 && pick < 4:
		return "(" + w.truth(depth-1) + w.one(" and ", " or ") + w.truth(depth-1) + ")"
	case depth > 0 && pick < 5:
		return "not " + w.truth(depth-1)
	case depth > 0 && pick < 7:
		return w.number(depth-1) + w.one(" = ", " != ", " < ", " >= ") + w.number(depth-1)
	}
	return w.one("ip", "ip6", "tcp", "udp", "icmp", "icmp6", "lcp", "pap", "chap", "ipcp", "mp", "inbound", "outbound", "port 53", "src port 53", "udp dst port 54", "portrange 50-60",
		"host 1.2.3.4", "dst host 5.6.7.8", "net 5.0.0.0/8", "src net 1.2.0.0/16", "host 102::9", "net 506::/32", "proto 0xc021", "proto 61", "ip proto 17", "ip6 proto 6", "len > 40", "1 = 1", "1 = 2")
}

// filter tells a filter by chance.
func (w writer) filter(t testing.TB) []api.Node {
	t.Helper()
	for {
		l, _, place, e := parse.Parse(w.truth(w.Intn(6)))
		if e != api.OK {
			t.Fatalf("no source: %d, %d", place, e)
		}
		// A divisor may have come to be 0.
		if _, e := types.Check(l); e == api.OK {
			return l
		}
	}
}

// policyByChance tells a policy that may be.
func policyByChance(t testing.TB, chance *rand.Rand) api.Policy {
	t.Helper()
	w := writer{chance}
	p := api.Policy{Rest: 1 + w.Intn(api.MaxDepth), Hold: w.Intn(api.MaxHold + 1), Idle: uint32(w.Intn(9)), Most: w.Uint32()}
	for _, filter := range []*[]api.Node{&p.Pass, &p.Active, &p.Demand} {
		if w.Intn(3) > 0 {
			*filter = w.filter(t)
		}
	}
	for n := range w.Intn(6) * w.Intn(4) {
		p.Classes = append(p.Classes, api.Class{Name: fmt.Sprintf("c%d", n), Depth: 1 + w.Intn(api.MaxDepth), Tree: w.filter(t)})
	}
	return p
}

// Policies by chance, over frames by chance, on every link: the calls and the programs.
func TestByChance(t *testing.T) {
	t.Parallel()
	chance := rand.New(rand.NewSource(23))
	all := framesOfLinks()
	var seen tally
	for range 200 {
		p := policyByChance(t, chance)
		n := of(t, p)
		for _, l := range links() {
			seen.agrees(t, n, p, l, oneOf(151, chance.Intn(151), all[l])...)
			which := chance.Intn(3 + len(p.Classes))
			if filter := filters(p)[which]; len(filter) > 0 {
				comesTo(t, program(t, n, which, l), filter, asked(which, l), oneOf(151, chance.Intn(151), all[l])...)
			}
		}
	}
	if seen.active < 2000 || seen.silent < 2000 || seen.stopped < 2000 || seen.dialled < 2000 || seen.not < 2000 || len(seen.classes) < 10 {
		t.Errorf("too few of a kind: %+v", seen)
	}
}

// Bytes by chance, and links and ways by chance, that may be or not.
func TestAnything(t *testing.T) {
	t.Parallel()
	chance := rand.New(rand.NewSource(24))
	p := full(t)
	n := of(t, p)
	var seen tally
	for i := range 5000 {
		b := make([]byte, chance.Intn(60))
		for at := range b {
			b[at] = byte(chance.Intn(256))
			if i%2 == 0 && at < 6 {
				b[at] = []byte{0xff, 3, 0, 0x21, 0x45, 0x57, 0x60, 0x3d, 0x80, 0xc0}[chance.Intn(10)]
			}
		}
		l, way := api.Link{ACFC: chance.Intn(2) == 0, PFC: chance.Intn(2) == 0, MP: chance.Intn(5) - 1}, chance.Intn(4)-1
		switch {
		case l.MP < 0 || l.MP > 2:
			refuses(t, n, l, way, b, api.ErrPlanLink)
		case way < 0 || way > 1:
			refuses(t, n, l, way, b, api.ErrPlanWay)
		default:
			seen.agrees(t, n, p, l, b)
		}
	}
}
