package plan_test

import (
	"fmt"
	"slices"
	"testing"

	"riddle/api"
)

func TestExamples(t *testing.T) {
	n := said(t)
	for _, l := range links() {
		for _, way := range ways() {
			for _, b := range [][]byte{f(), nil, {1}, {0xff, 3}, make([]byte, 65535)} {
				says(t, n, l, way, b, reply{pass: true, active: true})
			}
			says(t, n, l, way, make([]byte, 65536), reply{})
		}
	}
	noProgram(t, n, 0, plain())
	n = said(t, "pass ip", "active udp", "class a 1 port 53")
	// The chapter says 1, which port 53 does not: it is f's source port, so f is of the first class, whose number is 0.
	says(t, n, plain(), api.WayIn, f(), reply{pass: true, active: true, class: 0})
	n = said(t, "pass ip", "active udp", "class a 1 port 55")
	says(t, n, plain(), api.WayIn, f(), reply{pass: true, active: true, class: 1})
}

// sourcesOf tells filters of each kind, and none.
func sourcesOf() []string {
	return []string{"", "ip", "not ip", "udp", "inbound", "outbound", "mp", "not lcp", "port 53", "1 = 1", "1 = 2", "ppp[30] != 99", "not ppp[30] = 99", "len < 40 and ip or outbound"}
}

// Each filter there and not there: Pass and Active together, Demand with both.
func TestEachFilter(t *testing.T) {
	t.Parallel()
	all := framesOfLinks()
	var seen tally
	for i, pass := range sourcesOf() {
		for j, active := range sourcesOf() {
			demand := sourcesOf()[(i+3*j)%len(sourcesOf())]
			var lines []string
			for _, x := range [][2]string{{"pass ", pass}, {"active ", active}, {"demand ", demand}} {
				if x[1] != "" {
					lines = append(lines, x[0]+x[1])
				}
			}
			p := policyOf(t, lines...)
			n := of(t, p)
			for at, l := range links() {
				seen.agrees(t, n, p, l, oneOf(127, i+5*j+at, all[l])...)
			}
		}
	}
	if seen.active < 1000 || seen.silent < 1000 || seen.stopped < 1000 || seen.dialled < 1000 || seen.not < 1000 {
		t.Errorf("too few of a kind: %+v", seen)
	}
}

// No class, one, two and as many as may be; a frame is of the first one that it matches.
func TestClasses(t *testing.T) {
	t.Parallel()
	all := framesOfLinks()
	some := []string{"1 = 2", "udp port 53", "inbound", "mp and udp", "tcp", "lcp", "ppp[40] = 0", "icmp6", "ip6 and len > 50", "proto 0xfd", "dst net 5.0.0.0/8 and port 80", "icmp or pap", "port 54", "ip[99] = 0 or ip", "chap or ip6cp", "not ip6", "outbound"}
	var seen tally
	for _, count := range []int{0, 1, 2, 15, 16} {
		for turn := range some {
			p := api.Policy{Rest: 1}
			for n := range count {
				p.Classes = append(p.Classes, api.Class{Name: fmt.Sprintf("c%d", n), Depth: 1, Tree: treeOf(t, some[(turn+n)%len(some)])})
			}
			n := of(t, p)
			for at, l := range links() {
				seen.agrees(t, n, p, l, oneOf(97, turn+count+at, all[l])...)
			}
		}
	}
	for n := range api.MaxClasses + 1 {
		if seen.classes[n] < 50 {
			t.Errorf("too few of class %d: %v", n, seen.classes)
		}
	}
}

// Whether a frame keeps the link up hangs on whether it passes; on whether it dials, nothing does.
func TestPassAndActive(t *testing.T) {
	lcp := fromHex("ff 03 c0 21")
	for _, x := range []struct {
		lines []string
		b     []byte
		want  reply
	}{
		{[]string{"pass ip", "active udp"}, f(), reply{pass: true, active: true}},
		{[]string{"pass ip", "active tcp"}, f(), reply{pass: true}},
		{[]string{"pass tcp", "active udp"}, f(), reply{}},
		{[]string{"pass tcp"}, f(), reply{}},
		{[]string{"pass udp"}, f(), reply{pass: true, active: true}},
		{[]string{"active udp"}, f(), reply{pass: true, active: true}},
		{[]string{"active tcp"}, f(), reply{pass: true}},
		{[]string{"active lcp", "pass lcp"}, lcp, reply{pass: true, active: true}},
		{[]string{"active not lcp", "pass lcp"}, lcp, reply{pass: true}},
		{[]string{"active lcp", "pass not lcp"}, lcp, reply{}},
		{[]string{"pass tcp", "active tcp", "demand udp"}, f(), reply{demand: true}},
		{[]string{"demand tcp"}, f(), reply{pass: true, active: true}},
		// Faults: a load behind the end matches neither the filter nor its not.
		{[]string{"pass ip[99] = 0"}, f(), reply{}},
		{[]string{"pass not ip[99] = 0"}, f(), reply{}},
		{[]string{"active not ip[99] = 0", "demand not ip[99] = 0"}, f(), reply{pass: true}},
		{[]string{"pass ip or ip[99] = 0", "active ip[99] = 0 or ip"}, f(), reply{pass: true}},
		{[]string{"pass 1 / (len - 28) = 0"}, f(), reply{}},
		// What is not well formed matches nothing, but without a filter it passes.
		{[]string{"pass not ip"}, f()[:27][2:], reply{}},
		{nil, f()[:9], reply{pass: true, active: true}},
		{[]string{"active not ip", "demand not ip"}, f()[:9], reply{pass: true}},
	} {
		for _, way := range ways() {
			says(t, said(t, x.lines...), plain(), way, x.b, x.want)
			says(t, said(t, x.lines...), api.Link{MP: api.MultiShort}, way, x.b, x.want)
		}
	}
}

// The way is that of the call, but for Demand and Class, which ask of what goes out.
func TestWays(t *testing.T) {
	n := said(t, "pass inbound", "demand inbound", "class a 1 inbound", "class b 1 outbound")
	says(t, n, rich(), api.WayIn, f(), reply{pass: true, active: true, class: 1})
	says(t, n, rich(), api.WayOut, f(), reply{class: 1})
	n = said(t, "active outbound", "demand outbound", "class a 1 ppp[0] = 255 and inbound", "class b 1 not inbound")
	says(t, n, rich(), api.WayIn, f(), reply{pass: true, demand: true, class: 1})
	says(t, n, rich(), api.WayOut, f(), reply{pass: true, active: true, demand: true, class: 1})
	n = said(t, "pass ip", "active ip and inbound")
	says(t, n, plain(), api.WayIn, f(), reply{pass: true, active: true})
	says(t, n, plain(), api.WayOut, f(), reply{pass: true})
}

// Each link has its own shapes of a frame; the link that dials has those of the plain one.
func TestLinks(t *testing.T) {
	n := said(t, "pass udp", "active port 53", "demand udp", "class a 1 tcp", "class b 1 udp")
	yes, dials := reply{pass: true, active: true, class: 1}, reply{pass: true, active: true, demand: true, class: 1}
	no := reply{class: 2}
	short, shortest := f()[2:], joined([]byte{0x21}, f()[4:])
	begins := joined(fromHex("ff 03 00 3d 80 07 00 21"), f()[4:])
	beginsLong := joined(fromHex("ff 03 00 3d 80 00 00 07 00 21"), f()[4:])
	later := joined(fromHex("ff 03 00 3d 40 07 00 21"), f()[4:])
	for _, l := range links() {
		pick := func(is bool) reply {
			if is {
				return yes
			}
			return no
		}
		for _, way := range ways() {
			says(t, n, l, way, f(), dials)
			says(t, n, l, way, short, pick(l.ACFC))
			says(t, n, l, way, shortest, pick(l.ACFC && l.PFC))
			says(t, n, l, way, joined([]byte{0xff, 3, 0x21}, f()[4:]), pick(l.PFC))
			says(t, n, l, way, begins, pick(l.MP == api.MultiShort))
			says(t, n, l, way, beginsLong, pick(l.MP == api.MultiLong))
			says(t, n, l, way, later, no)
		}
	}
	// A frame that matches on the plain link, and on no link of its pieces' kind.
	n = said(t, "pass proto 61", "demand proto 61 and not mp", "class a 1 mp")
	piece := fromHex("ff 03 00 3d 80 07 c0 21")
	says(t, n, plain(), api.WayOut, piece, reply{pass: true, active: true, demand: true, class: 1})
	says(t, n, api.Link{MP: api.MultiShort}, api.WayOut, piece, reply{demand: true, class: 0})
}

// A frame of several classes' filters is of the first one, in the order of the classes, whatever their names are.
func TestFirstClass(t *testing.T) {
	all := []string{"ip", "udp", "port 53", "len = 28"}
	names := []string{"d", "a", "c", "b"}
	for n := range all {
		p := api.Policy{Rest: 1}
		for m := range all {
			tree := treeOf(t, all[(n+m)%len(all)])
			if m < n {
				tree = treeOf(t, "tcp")
			}
			p.Classes = append(p.Classes, api.Class{Name: names[m], Depth: 1, Tree: tree})
		}
		says(t, of(t, p), plain(), api.WayIn, f(), reply{pass: true, active: true, class: n})
		p.Classes = slices.Concat(p.Classes[n:], p.Classes[:n])
		says(t, of(t, p), plain(), api.WayIn, f(), reply{pass: true, active: true, class: 0})
	}
}
