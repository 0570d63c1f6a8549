package engine_test

import (
	"testing"

	"riddle/api"
)

// Frames of each length and kind, in each phase, in: what is too long counts ahead of the phase, the phase ahead of what passes.
func TestIn(t *testing.T) {
	for _, x := range []struct {
		name      string
		b         []byte
		up, else_ api.Out
	}{
		{"passes, active", g(), forward(), fate(drop(api.WhyDown))},
		{"passes, not active", lcp(), forward(), fate(drop(api.WhyDown))},
		{"does not pass", tcp(), fate(drop(api.WhyPass)), fate(drop(api.WhyDown))},
		{"no bytes", nil, fate(drop(api.WhyPass)), fate(drop(api.WhyDown))},
		{"ill formed", []byte{6}, fate(drop(api.WhyPass)), fate(drop(api.WhyDown))},
		{"longest", longest(), forward(), fate(drop(api.WhyDown))},
		{"longest, does not pass", long(tcp(), api.MaxFrame), fate(drop(api.WhyPass)), fate(drop(api.WhyDown))},
		{"too long", tooLong(), fate(drop(api.WhyLong)), fate(drop(api.WhyLong))},
		{"too long, does not pass", long(tcp(), api.MaxFrame+1), fate(drop(api.WhyLong)), fate(drop(api.WhyLong))},
		{"far too long", long(g(), 1<<20), fate(drop(api.WhyLong)), fate(drop(api.WhyLong))},
	} {
		for _, phase := range phases() {
			want := x.else_
			if phase == api.PhaseUp {
				want = x.up
			}
			b := inPhase(t, phase)
			before := b.x.State()
			b.play(t, step{in(x.b), want})
			after := b.x.State()
			// What comes in stands in no queue, and changes the clock alone.
			after.Idle = before.Idle
			if !sameState(after, before) {
				t.Errorf("P24.2: %s, phase %d: %+v; want %+v", x.name, phase, after, before)
			}
		}
	}
}

// The same, out.
func TestOut(t *testing.T) {
	long1, pass, downs, hold := fate(drop(api.WhyLong)), fate(drop(api.WhyPass)), fate(drop(api.WhyDown)), fate(held())
	for _, x := range []struct {
		b              []byte
		down, dial, up api.Out
	}{
		{with(g(), 23, 9), dials(held()), hold, fate(queued(0))},
		{lcp(), downs, hold, fate(full(1))},
		{tcp(), downs, pass, pass},
		{nil, downs, pass, pass},
		{[]byte{6}, downs, pass, pass},
		{longest(), dials(held()), hold, fate(queued(0))},
		{long(tcp(), api.MaxFrame), downs, pass, pass},
		{tooLong(), long1, long1, long1},
		{long(tcp(), api.MaxFrame+1), long1, long1, long1},
		{long(g(), 1<<20), long1, long1, long1},
		// Without address and control: on the plain link, and so while the link dials, it is ill formed.
		{g()[2:], downs, pass, fate(queued(0))},
		{g()[3:], downs, pass, fate(queued(0))},
	} {
		inPhase(t, api.PhaseDown).play(t, step{out(x.b), x.down})
		inPhase(t, api.PhaseDial).play(t, step{out(x.b), x.dial})
		inPhase(t, api.PhaseUp).play(t, step{out(x.b), x.up})
	}
}

// A policy without filters: all that is no longer than may be passes, nothing dials.
func TestWithoutFilters(t *testing.T) {
	b := bothSaid(t, "rest 3", "hold 9")
	for _, frame := range [][]byte{nil, {}, {7}, g(), longest()} {
		b.play(t, step{out(frame), fate(drop(api.WhyDown))}, step{in(frame), fate(drop(api.WhyDown))})
	}
	b.play(t, step{up(rich()), sent()})
	b.play(t, step{out(nil), fate(queued(0))}, step{out([]byte{7}), fate(queued(0))}, step{out(longest()), fate(queued(0))}, step{out(nil), fate(full(0))}, step{out(tooLong()), fate(drop(api.WhyLong))})
	b.play(t, step{in(nil), forward()}, step{in([]byte{7}), forward()}, step{in(longest()), forward()}, step{in(tooLong()), fate(drop(api.WhyLong))})
	b.play(t, step{take(), taken(0, nil)}, step{take(), taken(0, []byte{7})}, step{take(), taken(0, longest())}, step{take(), nothing()})
}

// Filters that say yes of every frame, and of none; without a demand filter nothing dials.
func TestFilters(t *testing.T) {
	yes, no := "1 = 1", "1 = 2"
	b := bothSaid(t, "pass "+yes, "active "+yes, "demand "+yes, "class a 1 "+yes, "hold 1")
	b.play(t, step{out(lcp()), dials(held())}, step{out(g()), fate(drop(api.WhyHold))}, step{up(plain()), sent(queued(0))}, step{in(lcp()), forward()}, step{out([]byte{7}), fate(drop(api.WhyPass))})
	b = bothSaid(t, "pass "+no, "demand "+yes, "hold 1")
	b.play(t, step{out(g()), dials(held())}, step{out(g()), fate(drop(api.WhyPass))}, step{up(plain()), sent(drop(api.WhyPass))}, step{in(g()), fate(drop(api.WhyPass))}, step{out(g()), fate(drop(api.WhyPass))})
	b = bothSaid(t, "demand "+no, "hold 1", "class a 1 "+no, "active "+no, "idle 2")
	b.play(t, step{out(g()), fate(drop(api.WhyDown))}, step{up(plain()), sent()}, step{out(g()), fate(queued(1))}, step{tick(), nothing()}, step{in(g()), forward()}, step{tick(), hangs(api.HangIdle)})
	// A load behind the frame's end is a fault: it matches neither the filter nor its not.
	for _, filter := range []string{"ip[99] = 0", "not ip[99] = 0"} {
		b = bothSaid(t, "pass "+filter, "demand udp", "hold 1")
		b.play(t, step{out(g()), dials(held())}, step{up(plain()), sent(drop(api.WhyPass))}, step{in(g()), fate(drop(api.WhyPass))})
		b = bothSaid(t, "demand "+filter, "class a 1 "+filter, "hold 1")
		b.play(t, step{out(g()), fate(drop(api.WhyDown))}, step{up(plain()), sent()}, step{out(g()), fate(queued(1))})
	}
}

// Which way a frame goes, the filters are told.
func TestWays(t *testing.T) {
	b := bothSaid(t, "pass inbound", "demand outbound", "hold 3")
	b.play(t, step{out(g()), dials(held())}, step{out(g()), fate(drop(api.WhyPass))}, step{up(plain()), sent(drop(api.WhyPass))}, step{in(g()), forward()}, step{out(g()), fate(drop(api.WhyPass))})
	b = bothSaid(t, "pass outbound", "demand inbound", "hold 3")
	b.play(t, step{out(g()), fate(drop(api.WhyDown))}, step{up(plain()), sent()}, step{in(g()), fate(drop(api.WhyPass))}, step{out(g()), fate(queued(0))})
	b = bothSaid(t, "active inbound", "idle 2", "class a 9 outbound")
	b.play(t, step{up(plain()), sent()}, step{tick(), nothing()}, step{in(g()), forward()}, step{tick(), nothing()}, step{out(g()), fate(queued(0))}, step{tick(), hangs(api.HangIdle)})
	b = bothSaid(t, "active outbound", "idle 2", "class a 9 inbound")
	b.play(t, step{up(plain()), sent()}, step{tick(), nothing()}, step{out(g()), fate(queued(1))}, step{tick(), nothing()}, step{in(g()), forward()}, step{tick(), hangs(api.HangIdle)})
}

// Each link has its own shapes of a frame: those of the negotiated one count while the link is up, those of the plain one else.
func TestLinks(t *testing.T) {
	udp, short, shortest := g(), g()[2:], g()[3:]
	begins := append(fromHex("ff 03 00 3d 80 07 00 21"), g()[4:]...)
	beginsLong := append(fromHex("ff 03 00 3d 80 00 00 07 00 21"), g()[4:]...)
	for _, l := range links() {
		b := bothSaid(t, "pass udp", "demand udp", "class a 100 port 53", "active port 53", "idle 2", "hold 1")
		for _, frame := range [][]byte{short, shortest, begins, beginsLong} {
			b.play(t, step{out(frame), fate(drop(api.WhyDown))})
		}
		b.play(t, step{out(udp), dials(held())})
		for _, frame := range [][]byte{short, shortest, begins, beginsLong} {
			b.play(t, step{out(frame), fate(drop(api.WhyPass))})
		}
		b.play(t, step{up(l), sent(queued(0))})
		for _, x := range []struct {
			b  []byte
			is bool
		}{{udp, true}, {short, l.ACFC}, {shortest, l.ACFC && l.PFC}, {begins, l.MP == api.MultiShort}, {beginsLong, l.MP == api.MultiLong}} {
			way, other := fate(drop(api.WhyPass)), fate(drop(api.WhyPass))
			if x.is {
				way, other = fate(queued(0)), forward()
			}
			b.play(t, step{out(x.b), way}, step{in(x.b), other})
		}
		// Down again, and up on the plain link: what was negotiated counts no more.
		b.play(t, step{down(), nothing()}, step{out(udp), dials(held())}, step{out(short), fate(drop(api.WhyPass))}, step{up(plain()), sent(queued(0))}, step{out(short), fate(drop(api.WhyPass))}, step{in(short), fate(drop(api.WhyPass))})
	}
}
