package engine_test

import (
	"testing"

	"riddle/api"
)

// numbered is g with a number in its last bytes, which no filter of these tests reads.
func numbered(n int) []byte {
	return with(with(g(), 8, byte(n>>8)), 9, byte(n))
}

// Hold of 0, of 1, of more and of the most: held frames up to it and past it, and then sent in their order.
func TestHold(t *testing.T) {
	for _, most := range []int{0, 1, 2, 7, 63, 64} {
		p := api.Policy{Rest: 1000, Hold: most, Demand: policyOf(t, "demand udp").Demand}
		b := bothOf(t, p, api.Counts{})
		var want []api.Fate
		for n := range most + 3 {
			became := drop(api.WhyHold)
			if n < most {
				became = held()
				want = append(want, queued(0))
			}
			o := fate(became)
			o.Dial = n == 0
			b.play(t, step{out(numbered(n)), o})
			b.stands(t, api.State{Phase: api.PhaseDial, Held: min(n+1, most), Lens: []int{0}})
		}
		b.counted(t, api.Counts{Dials: 1, Held: uint32(most), Hold: 3})
		b.play(t, step{up(plain()), sent(want...)})
		b.stands(t, api.State{Phase: api.PhaseUp, Lens: []int{most}})
		b.counted(t, api.Counts{Dials: 1, Held: uint32(most), Hold: 3, Queued: uint32(most)})
		for n := range most {
			b.play(t, step{take(), taken(0, numbered(n))})
		}
		b.play(t, step{take(), nothing()})
	}
}

// The engine dials once, and again when it is down again.
func TestDials(t *testing.T) {
	b := bothSaid(t, "demand udp", "hold 9")
	b.play(t, step{out(lcp()), fate(drop(api.WhyDown))}, step{out(g()), dials(held())}, step{out(g()), fate(held())}, step{out(lcp()), fate(held())})
	b.play(t, step{up(plain()), sent(queued(0), queued(0), queued(0))}, step{out(g()), fate(queued(0))}, step{down(), nothing()})
	b.play(t, step{out(lcp()), fate(drop(api.WhyDown))}, step{out(g()), dials(held())}, step{down(), nothing()}, step{out(g()), dials(held())})
	b.counted(t, api.Counts{Queued: 4, Held: 5, Down: 2, Lost: 5, Dials: 3})
}

// In PhaseDown it is not asked whether a frame passes: it is when the link is up.
func TestDialsWithWhatDoesNotPass(t *testing.T) {
	b := bothSaid(t, "pass lcp", "demand udp", "hold 2")
	b.play(t, step{out(g()), dials(held())}, step{out(g()), fate(drop(api.WhyPass))}, step{out(lcp()), fate(held())}, step{out(lcp()), fate(drop(api.WhyHold))})
	b.play(t, step{up(plain()), sent(drop(api.WhyPass), queued(0))})
	b.counted(t, api.Counts{Queued: 1, Held: 2, Pass: 2, Hold: 1, Dials: 1})
}

// What becomes of held frames on the new link: queued, no room, not passing there.
func TestHeldOnTheNewLink(t *testing.T) {
	// Of this protocol a frame is on the plain link; where there is multilink, it is a piece.
	piece := fromHex("ff 03 00 3d 80 07 c0 21")
	lines := []string{"pass not mp", "demand udp", "class a 1 udp", "class b 2 proto 61", "rest 1", "hold 8"}
	hold := []step{{out(g()), dials(held())}, {out(piece), fate(held())}, {out(g()), fate(held())}, {out(lcp()), fate(held())}, {out(piece), fate(held())}, {out(lcp()), fate(held())}, {out(piece), fate(held())}}
	b := bothSaid(t, lines...)
	b.play(t, hold...)
	b.play(t, step{up(api.Link{PFC: true}), sent(queued(0), queued(1), full(0), queued(2), queued(1), full(2), full(1))})
	b.stands(t, api.State{Phase: api.PhaseUp, Link: api.Link{PFC: true}, Lens: []int{1, 2, 1}})
	b.counted(t, api.Counts{Queued: 4, Held: 7, Full: 3, Dials: 1})
	b = bothSaid(t, lines...)
	b.play(t, hold...)
	b.play(t, step{up(api.Link{MP: api.MultiShort}), sent(queued(0), drop(api.WhyPass), full(0), queued(2), drop(api.WhyPass), full(2), drop(api.WhyPass))})
	b.stands(t, api.State{Phase: api.PhaseUp, Link: api.Link{MP: api.MultiShort}, Lens: []int{1, 0, 1}})
	b.counted(t, api.Counts{Queued: 2, Held: 7, Pass: 3, Full: 2, Dials: 1})
	b.play(t, step{take(), taken(0, g())}, step{take(), taken(2, lcp())}, step{take(), nothing()})
}

// While the link dials, what passes is asked of the plain one, whatever the last one was.
func TestPassWhileDialling(t *testing.T) {
	b := bothSaid(t, "pass ip", "demand udp", "hold 8")
	b.play(t, step{up(rich()), sent()}, step{out(g()[3:]), fate(queued(0))}, step{down(), nothing()}, step{out(g()), dials(held())})
	b.play(t, step{out(g()[3:]), fate(drop(api.WhyPass))}, step{out(tcp()), fate(held())}, step{out(lcp()), fate(drop(api.WhyPass))})
	b.play(t, step{up(rich()), sent(queued(0), queued(0))})
}

// What comes in while the link dials is dropped; ticks and takes do nothing; all that is held stays.
func TestWhileDialling(t *testing.T) {
	b := bothSaid(t, "demand udp", "hold 2", "idle 1", "most 1")
	b.play(t, step{out(g()), dials(held())})
	for range 5 {
		b.play(t, step{tick(), nothing()}, step{take(), nothing()}, step{in(g()), fate(drop(api.WhyDown))})
		b.stands(t, api.State{Phase: api.PhaseDial, Held: 1, Lens: []int{0}})
	}
	b.play(t, step{up(plain()), sent(queued(0))})
}

// Up comes while the link is down, too: nobody dialled, nothing is held.
func TestUpWithoutDialling(t *testing.T) {
	for _, l := range links() {
		b := bothSaid(t, "demand udp", "hold 2")
		b.play(t, step{up(l), sent()}, step{out(g()), fate(queued(0))})
		b.counted(t, api.Counts{Queued: 1})
	}
}
