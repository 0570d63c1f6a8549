package engine_test

import (
	"encoding/hex"
	"fmt"
	"math"
	"slices"
	"strings"
	"testing"

	"riddle/api"
	"riddle/engine"
	"riddle/policy"
)

const top = api.MaxCount

func plain() api.Link { return api.Link{} }
func rich() api.Link  { return api.Link{ACFC: true, PFC: true, MP: api.MultiLong} }

// links tells all links that may be.
func links() []api.Link {
	var out []api.Link
	for n := range 12 {
		out = append(out, api.Link{ACFC: n&1 != 0, PFC: n&2 != 0, MP: n >> 2})
	}
	return out
}

// noLinks tells links that may not be.
func noLinks() []api.Link {
	var out []api.Link
	for _, mp := range []int{-1, 3, 4, 9, 255, 256, 257, 1 << 16, 1 << 32, 1<<32 + 1, math.MinInt, math.MaxInt} {
		out = append(out, api.Link{MP: mp}, api.Link{ACFC: true, MP: mp}, api.Link{PFC: true, MP: mp}, api.Link{ACFC: true, PFC: true, MP: mp})
	}
	return out
}

// fromHex tells the bytes of digits, blanks between them left aside.
func fromHex(s string) []byte {
	b, err := hex.DecodeString(strings.ReplaceAll(s, " ", ""))
	if err != nil {
		panic(err)
	}
	return b
}

// g is the frame of the examples in the chapters: udp from 1.2.3.4, port 53, to 5.6.7.8, port 54.
func g() []byte {
	return fromHex("ff 03 00 21 45 00 00 18 00 00 00 00 40 11 00 00 01 02 03 04 05 06 07 08 00 35 00 36")
}

// tcp is a frame like g, but of tcp.
func tcp() []byte { return with(g(), 13, 6) }

// lcp is a frame of the protocol that negotiates links.
func lcp() []byte { return fromHex("ff 03 c0 21") }

// with is a frame with one byte turned.
func with(b []byte, at int, to byte) []byte {
	b[at] = to
	return b
}

// long tells a frame like b, but of so many bytes.
func long(b []byte, size int) []byte { return append(b, make([]byte, size-len(b))...) }

// longest is a frame as long as may be, of udp; tooLong has one byte more.
func longest() []byte { return long(g(), api.MaxFrame) }
func tooLong() []byte { return long(g(), api.MaxFrame+1) }

func in(b []byte) api.Event    { return api.Event{Kind: api.EventIn, Frame: b} }
func out(b []byte) api.Event   { return api.Event{Kind: api.EventOut, Frame: b} }
func up(l api.Link) api.Event  { return api.Event{Kind: api.EventUp, Link: l} }
func tick() api.Event          { return api.Event{Kind: api.EventTick} }
func down() api.Event          { return api.Event{Kind: api.EventDown} }
func take() api.Event          { return api.Event{Kind: api.EventTake} }
func nothing() api.Out         { return api.Out{} }
func forward() api.Out         { return api.Out{Fate: api.Fate{Kind: api.FateForward}} }
func hangs(why int) api.Out    { return api.Out{Hang: why} }
func dials(f api.Fate) api.Out { return api.Out{Dial: true, Fate: f} }
func fate(f api.Fate) api.Out  { return api.Out{Fate: f} }
func sent(fs ...api.Fate) api.Out {
	return api.Out{Held: fs}
}
func taken(class int, b []byte) api.Out {
	return api.Out{Fate: api.Fate{Kind: api.FateTaken, Class: class}, Frame: b}
}

func held() api.Fate            { return api.Fate{Kind: api.FateHold} }
func queued(class int) api.Fate { return api.Fate{Kind: api.FateQueue, Class: class} }
func drop(why int) api.Fate     { return api.Fate{Kind: api.FateDrop, Why: why} }
func full(class int) api.Fate {
	return api.Fate{Kind: api.FateDrop, Why: api.WhyFull, Class: class}
}

// policyOf tells the policy that lines say.
func policyOf(t testing.TB, lines ...string) api.Policy {
	t.Helper()
	p, line, place, e := policy.Parse(strings.Join(lines, "\n"))
	if e != api.OK {
		t.Fatalf("%.200q: %d, %d, %d", lines, line, place, e)
	}
	return p
}

// of tells the engine of a policy that may be.
func of(t testing.TB, p api.Policy, from api.Counts) *engine.Engine {
	t.Helper()
	x, e := engine.New(p, from)
	if e != api.OK || x == nil {
		t.Fatalf("P24.1: %s: %d", told(p), e)
	}
	return x
}

// copied is a policy in memory of its own.
func copied(p api.Policy) api.Policy {
	p.Pass, p.Active, p.Demand = slices.Clone(p.Pass), slices.Clone(p.Active), slices.Clone(p.Demand)
	p.Classes = slices.Clone(p.Classes)
	for i := range p.Classes {
		p.Classes[i].Tree = slices.Clone(p.Classes[i].Tree)
	}
	return p
}

// told tells a policy in few words: by its text, if it has one.
func told(p api.Policy) string {
	if s, e := policy.Print(p); e == api.OK {
		return strings.ReplaceAll(s[:min(len(s), 300)], "\n", "; ")
	}
	return fmt.Sprintf("pass %d, active %d, demand %d nodes, %d classes, rest %d, hold %d", len(p.Pass), len(p.Active), len(p.Demand), len(p.Classes), p.Rest, p.Hold)
}

// toldEvent tells an event in few words.
func toldEvent(v api.Event) string {
	return fmt.Sprintf("kind %d, %d bytes %.60x, %+v", v.Kind, len(v.Frame), v.Frame, v.Link)
}

// toldOut tells what the engine does in few words.
func toldOut(o api.Out) string {
	return fmt.Sprintf("%+v, %d bytes %.60x, dial %v, hang %d, held %+v", o.Fate, len(o.Frame), o.Frame, o.Dial, o.Hang, o.Held)
}

func sameOut(a api.Out, b api.Out) bool {
	return a.Fate == b.Fate && slices.Equal(a.Frame, b.Frame) && a.Dial == b.Dial && a.Hang == b.Hang && slices.Equal(a.Held, b.Held)
}

func sameState(a api.State, b api.State) bool {
	return a.Phase == b.Phase && a.Link == b.Link && a.Idle == b.Idle && a.Conn == b.Conn && a.Held == b.Held && slices.Equal(a.Lens, b.Lens)
}
