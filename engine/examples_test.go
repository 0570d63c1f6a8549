package engine_test

import (
	"testing"

	"riddle/api"
)

// The chapter's example, line by line.
func TestExample(t *testing.T) {
	b := bothSaid(t, "pass ip", "active udp", "demand udp port 53", "class a 1 port 53", "rest 1", "idle 2", "hold 1")
	b.play(t,
		step{out(lcp()), fate(drop(api.WhyDown))},
		step{out(g()), dials(held())},
		step{out(g()), fate(drop(api.WhyHold))},
		step{in(g()), fate(drop(api.WhyDown))},
	)
	b.play(t, step{up(plain()), sent(queued(0))})
	b.play(t,
		step{out(g()), fate(full(0))},
		step{out(lcp()), fate(drop(api.WhyPass))},
		step{in(g()), forward()},
		step{take(), taken(0, g())},
		step{take(), nothing()},
	)
	b.play(t, step{tick(), nothing()}, step{tick(), hangs(api.HangIdle)}, step{tick(), nothing()})
	b.refused(t, up(api.Link{MP: 3}), api.ErrEngineLink)
	b.refused(t, api.Event{Kind: api.EventTick, Frame: []byte{0}}, api.ErrEngineEvent)
	b.refused(t, api.Event{Kind: 9}, api.ErrEngineEvent)
	b.counted(t, api.Counts{Forward: 1, Queued: 1, Held: 1, Taken: 1, Down: 2, Pass: 1, Hold: 1, Full: 1, Dials: 1, Idles: 1})
	b.stands(t, api.State{Lens: []int{0, 0}})
}

// The same by Play, all at once.
func TestExamplePlayed(t *testing.T) {
	x := of(t, policyOf(t, "pass ip", "active udp", "demand udp port 53", "class a 1 port 53", "rest 1", "idle 2", "hold 1"), api.Counts{})
	got := x.Play(out(lcp()), out(g()), out(g()), in(g()), up(plain()), out(g()), out(lcp()), in(g()), take(), take(), tick(), tick(), tick(), up(api.Link{MP: 3}), api.Event{Kind: api.EventTick, Frame: []byte{0}}, api.Event{Kind: 9})
	want := []api.Out{fate(drop(api.WhyDown)), dials(held()), fate(drop(api.WhyHold)), fate(drop(api.WhyDown)), sent(queued(0)), fate(full(0)), fate(drop(api.WhyPass)), forward(), taken(0, g()), nothing(), nothing(), hangs(api.HangIdle), nothing(), nothing(), nothing(), nothing()}
	played(t, got, want...)
}
