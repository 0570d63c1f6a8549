package engine_test

import (
	"math"
	"testing"

	"riddle/api"
)

// inPhase tells both in a phase: the one that is down, one that dials, one that is up, each with frames where it may have some.
func inPhase(t testing.TB, phase int) *both {
	t.Helper()
	b := bothSaid(t, "pass not tcp", "active udp", "demand udp", "class a 2 udp", "rest 1", "idle 9", "hold 2")
	if phase != api.PhaseDown {
		b.play(t, step{out(g()), dials(held())})
	}
	if phase == api.PhaseUp {
		b.play(t, step{up(rich()), sent(queued(0))}, step{out(lcp()), fate(queued(1))}, step{tick(), nothing()})
	}
	if b.x.State().Phase != phase {
		t.Fatalf("P24.4: %+v; want phase %d", b.x.State(), phase)
	}
	return b
}

func phases() []int { return []int{api.PhaseDown, api.PhaseDial, api.PhaseUp} }

func noKinds() []int {
	return []int{0, -1, 7, 8, 99, 255, 256, 257, 1 << 16, 1<<32 + 1, 1<<32 + 6, math.MinInt, math.MinInt + 1, math.MaxInt}
}

// Kinds that are none, with and without something in the fields.
func TestNoKinds(t *testing.T) {
	for _, phase := range phases() {
		b := inPhase(t, phase)
		for _, kind := range noKinds() {
			for _, v := range []api.Event{{}, {Frame: g()}, {Link: rich()}, {Link: api.Link{MP: 3}}, {Frame: tooLong(), Link: rich()}} {
				v.Kind = kind
				b.refused(t, v, api.ErrEngineEvent)
			}
		}
	}
}

// Each kind with a field that it does not use; what it uses may be anything then.
func TestFieldsThatAreNotUsed(t *testing.T) {
	someLinks := append(links()[1:], noLinks()...)
	someFrames := [][]byte{{0}, g(), longest(), tooLong()}
	for _, phase := range phases() {
		b := inPhase(t, phase)
		for _, kind := range []int{api.EventIn, api.EventOut} {
			for _, l := range someLinks {
				for _, frame := range [][]byte{nil, {}, g(), tooLong()} {
					b.refused(t, api.Event{Kind: kind, Frame: frame, Link: l}, api.ErrEngineEvent)
				}
			}
		}
		for _, kind := range []int{api.EventTick, api.EventDown, api.EventTake} {
			for _, frame := range someFrames {
				b.refused(t, api.Event{Kind: kind, Frame: frame}, api.ErrEngineEvent)
				b.refused(t, api.Event{Kind: kind, Frame: frame, Link: rich()}, api.ErrEngineEvent)
			}
			for _, l := range someLinks {
				b.refused(t, api.Event{Kind: kind, Link: l}, api.ErrEngineEvent)
			}
		}
		for _, frame := range someFrames {
			for _, l := range append(links(), noLinks()...) {
				b.refused(t, api.Event{Kind: api.EventUp, Frame: frame, Link: l}, api.ErrEngineEvent)
			}
		}
	}
}

// An empty frame is none (R2): each kind may have one.
func TestEmptyFrame(t *testing.T) {
	for kind := api.EventIn; kind <= api.EventTake; kind++ {
		for _, phase := range phases() {
			if kind == api.EventUp && phase == api.PhaseUp {
				continue
			}
			none, empty, roomy := inPhase(t, phase), inPhase(t, phase), inPhase(t, phase)
			want, e := none.do(t, api.Event{Kind: kind})
			first, also := empty.do(t, api.Event{Kind: kind, Frame: []byte{}})
			second, too := roomy.do(t, api.Event{Kind: kind, Frame: g()[:0]})
			if e != api.OK || also != api.OK || too != api.OK || !sameOut(first, want) || !sameOut(second, want) {
				t.Errorf("R2: kind %d in phase %d: %s, %d; %s, %d; want %s", kind, phase, toldOut(first), also, toldOut(second), too, toldOut(want))
			}
		}
	}
}

// Links that may be, and those that may not, which count ahead of the phase.
func TestUpRefused(t *testing.T) {
	for _, phase := range phases() {
		b := inPhase(t, phase)
		for _, l := range noLinks() {
			b.refused(t, up(l), api.ErrEngineLink)
		}
	}
	b := inPhase(t, api.PhaseUp)
	for _, l := range links() {
		b.refused(t, up(l), api.ErrEngineUp)
	}
	for _, l := range links() {
		b.play(t, step{down(), nothing()}, step{up(l), sent()})
		b.stands(t, api.State{Phase: api.PhaseUp, Link: l, Lens: []int{0, 0}})
		b.refused(t, up(plain()), api.ErrEngineUp)
		b.refused(t, up(l), api.ErrEngineUp)
	}
}

// Behind what is refused all goes on as if it had not been.
func TestRefusedChangesNothing(t *testing.T) {
	b := inPhase(t, api.PhaseDial)
	refuse := func() {
		b.refused(t, up(api.Link{MP: 3}), api.ErrEngineLink)
		b.refused(t, api.Event{Kind: api.EventUp, Frame: g()}, api.ErrEngineEvent)
		b.refused(t, api.Event{Kind: api.EventDown, Link: rich()}, api.ErrEngineEvent)
		b.refused(t, api.Event{Kind: api.EventTick, Frame: g()}, api.ErrEngineEvent)
		b.refused(t, api.Event{Kind: api.EventTake, Frame: g()}, api.ErrEngineEvent)
		b.refused(t, api.Event{Kind: api.EventOut, Frame: g(), Link: rich()}, api.ErrEngineEvent)
		b.refused(t, api.Event{Kind: 0, Frame: g()}, api.ErrEngineEvent)
	}
	refuse()
	b.play(t, step{out(lcp()), fate(held())})
	refuse()
	b.play(t, step{up(plain()), sent(queued(0), queued(1))}, step{tick(), nothing()}, step{tick(), nothing()})
	refuse()
	b.refused(t, up(rich()), api.ErrEngineUp)
	b.stands(t, api.State{Phase: api.PhaseUp, Idle: 2, Conn: 2, Lens: []int{1, 1}})
	b.play(t, step{take(), taken(0, g())})
	refuse()
	b.play(t, step{take(), taken(1, lcp())}, step{take(), nothing()})
}
