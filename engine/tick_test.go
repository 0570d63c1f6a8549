package engine_test

import (
	"testing"

	"riddle/api"
)

// ticks plays so many ticks, of which none hangs up.
func (b *both) ticks(t testing.TB, count int) {
	t.Helper()
	for range count {
		b.play(t, step{tick(), nothing()})
	}
}

func TestIdle(t *testing.T) {
	for _, idle := range []int{1, 2, 3, 50} {
		p := api.Policy{Rest: 1, Idle: uint32(idle)}
		b := bothOf(t, p, api.Counts{})
		for range 3 {
			b.ticks(t, 2)
			b.play(t, step{up(plain()), sent()})
			b.ticks(t, idle-1)
			b.stands(t, api.State{Phase: api.PhaseUp, Idle: uint32(idle - 1), Conn: uint32(idle - 1), Lens: []int{0}})
			b.play(t, step{tick(), hangs(api.HangIdle)})
			b.stands(t, api.State{Lens: []int{0}})
			b.ticks(t, 2)
		}
		b.counted(t, api.Counts{Idles: 3})
	}
}

func TestMost(t *testing.T) {
	for _, most := range []int{1, 2, 3, 50} {
		p := api.Policy{Rest: 1, Most: uint32(most), Idle: uint32(most) + 1}
		b := bothOf(t, p, api.Counts{})
		for range 3 {
			b.play(t, step{up(rich()), sent()})
			for n := range most - 1 {
				b.play(t, step{in(g()), forward()}, step{tick(), nothing()})
				b.stands(t, api.State{Phase: api.PhaseUp, Link: rich(), Idle: 1, Conn: uint32(n + 1), Lens: []int{0}})
			}
			b.play(t, step{in(g()), forward()}, step{tick(), hangs(api.HangMost)})
			b.stands(t, api.State{Lens: []int{0}})
		}
		b.counted(t, api.Counts{Forward: uint32(3 * most), Mosts: 3})
	}
}

// Where both limits are reached, it is for idleness.
func TestBothLimits(t *testing.T) {
	b := bothOf(t, api.Policy{Rest: 1, Idle: 4, Most: 4}, api.Counts{})
	b.play(t, step{up(plain()), sent()})
	b.ticks(t, 3)
	b.play(t, step{tick(), hangs(api.HangIdle)})
	b.counted(t, api.Counts{Idles: 1})
	b = bothOf(t, api.Policy{Rest: 1, Idle: 3, Most: 4}, api.Counts{})
	b.play(t, step{up(plain()), sent()}, step{tick(), nothing()}, step{in(g()), forward()}, step{tick(), nothing()}, step{tick(), nothing()}, step{tick(), hangs(api.HangIdle)})
	b = bothOf(t, api.Policy{Rest: 1, Idle: 3, Most: 4}, api.Counts{})
	b.play(t, step{up(plain()), sent()}, step{tick(), nothing()}, step{tick(), nothing()}, step{in(g()), forward()}, step{tick(), nothing()}, step{tick(), hangs(api.HangMost)})
}

// Without limits a link stays up.
func TestNoLimits(t *testing.T) {
	b := bothOf(t, api.Policy{Rest: 1}, api.Counts{})
	b.play(t, step{up(plain()), sent()})
	b.ticks(t, 5000)
	b.stands(t, api.State{Phase: api.PhaseUp, Idle: 5000, Conn: 5000, Lens: []int{0}})
	b = bothOf(t, api.Policy{Rest: 1, Idle: top, Most: top}, api.Counts{})
	b.play(t, step{up(plain()), sent()})
	b.ticks(t, 5000)
}

// Which frames keep a link up: those that pass and are active, in and out, also where there is no room for them.
func TestWhatKeepsUp(t *testing.T) {
	for _, x := range []struct {
		name  string
		v     api.Event
		o     api.Out
		keeps bool
	}{
		{"in, active", in(g()), forward(), true},
		{"out, active", out(g()), fate(queued(0)), true},
		{"in, passes", in(lcp()), forward(), false},
		{"out, passes", out(lcp()), fate(queued(1)), false},
		{"in, active, but does not pass", in(tcp()), fate(drop(api.WhyPass)), false},
		{"out, active, but does not pass", out(tcp()), fate(drop(api.WhyPass)), false},
		{"in, too long", in(tooLong()), fate(drop(api.WhyLong)), false},
		{"out, too long", out(tooLong()), fate(drop(api.WhyLong)), false},
		{"in, the longest", in(longest()), forward(), true},
		{"out, the longest", out(longest()), fate(queued(0)), true},
		{"a take", take(), nothing(), false},
	} {
		b := bothSaid(t, "pass not tcp", "active ip", "idle 3", "class a 1 udp", "rest 1")
		b.play(t, step{up(plain()), sent()})
		b.ticks(t, 2)
		b.play(t, step{x.v, x.o})
		if x.keeps {
			b.stands(t, api.State{Phase: api.PhaseUp, Idle: 0, Conn: 2, Lens: b.x.State().Lens})
			b.ticks(t, 2)
		} else {
			b.stands(t, api.State{Phase: api.PhaseUp, Idle: 2, Conn: 2, Lens: b.x.State().Lens})
		}
		b.play(t, step{tick(), hangs(api.HangIdle)})
		b.play(t, step{tick(), nothing()})
	}
}

// A frame that finds no room was seen all the same.
func TestFullKeepsUp(t *testing.T) {
	b := bothSaid(t, "active udp", "idle 2", "rest 1")
	b.play(t, step{up(plain()), sent()}, step{out(g()), fate(queued(0))})
	for range 20 {
		b.play(t, step{tick(), nothing()}, step{out(g()), fate(full(0))})
	}
	b.play(t, step{tick(), nothing()}, step{out(lcp()), fate(full(0))}, step{tick(), hangs(api.HangIdle)})
	b.counted(t, api.Counts{Queued: 1, Full: 21, Lost: 1, Idles: 1})
}

// Frames that were dropped while the link was not up keep nothing up; a new link's clock begins anew.
func TestClockOfANewLink(t *testing.T) {
	b := bothSaid(t, "idle 3", "most 5", "demand udp", "hold 1")
	b.play(t, step{up(plain()), sent()})
	b.ticks(t, 2)
	b.play(t, step{down(), nothing()})
	b.stands(t, api.State{Lens: []int{0}})
	b.ticks(t, 4)
	b.play(t, step{out(g()), dials(held())}, step{in(g()), fate(drop(api.WhyDown))})
	b.ticks(t, 4)
	b.play(t, step{up(rich()), sent(queued(0))})
	b.stands(t, api.State{Phase: api.PhaseUp, Link: rich(), Lens: []int{1}})
	b.ticks(t, 2)
	b.play(t, step{in(g()), forward()})
	b.ticks(t, 2)
	b.stands(t, api.State{Phase: api.PhaseUp, Link: rich(), Idle: 2, Conn: 4, Lens: []int{1}})
	b.play(t, step{tick(), hangs(api.HangIdle)})
}

// What is lost at each kind of hang-up: all that waits, with Lost.
func TestLost(t *testing.T) {
	for _, x := range []struct {
		name string
		line string
		v    api.Event
		o    api.Out
		want api.Counts
	}{
		{"idle", "idle 1", tick(), hangs(api.HangIdle), api.Counts{Idles: 1}},
		{"most", "most 1", tick(), hangs(api.HangMost), api.Counts{Mosts: 1}},
		{"down", "", down(), nothing(), api.Counts{}},
	} {
		b := bothSaid(t, x.line, "class a 2 udp", "class b 2 lcp", "rest 3")
		b.play(t, step{up(rich()), sent()})
		for _, frame := range [][]byte{g(), g(), lcp(), tcp(), tcp(), tcp()} {
			b.do(t, out(frame))
		}
		b.play(t, step{take(), taken(0, g())}, step{x.v, x.o}, step{take(), nothing()})
		x.want.Queued, x.want.Taken, x.want.Lost = 6, 1, 5
		b.counted(t, x.want)
		b.stands(t, api.State{Lens: []int{0, 0, 0}})
	}
	// Held frames are lost by EventDown alone: while the link dials, ticks do nothing.
	b := bothSaid(t, "demand udp", "hold 3", "idle 1", "most 1")
	b.play(t, step{out(g()), dials(held())}, step{out(g()), fate(held())}, step{tick(), nothing()}, step{down(), nothing()})
	b.counted(t, api.Counts{Held: 2, Lost: 2, Dials: 1})
	b.stands(t, api.State{Lens: []int{0}})
	b.play(t, step{up(plain()), sent()}, step{take(), nothing()}, step{down(), nothing()}, step{down(), nothing()})
	b.counted(t, api.Counts{Held: 2, Lost: 2, Dials: 1})
}
