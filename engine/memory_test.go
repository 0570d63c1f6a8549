package engine_test

import (
	"bytes"
	"math/rand"
	"slices"
	"sync"
	"testing"

	"riddle/api"
	"riddle/engine"
)

// scribble writes something else over a frame, and the room behind it.
func scribble(b []byte) {
	whole := b[:cap(b)]
	for at := range whole {
		whole[at] ^= 0x55
	}
}

// roomy is a frame with room behind it, in which something stands.
func roomy(b []byte) []byte {
	return append(slices.Clone(b), g()...)[:len(b)]
}

// Frames that are handed in are not changed, nor the room behind them, in which what stands counts for nothing.
func TestFramesStay(t *testing.T) {
	for _, phase := range phases() {
		for _, frame := range [][]byte{nil, g(), lcp(), tcp(), g()[:9], longest()} {
			for _, event := range []func([]byte) api.Event{in, out} {
				b := inPhase(t, phase)
				given := roomy(frame)
				was := slices.Clone(given[:cap(given)])
				b.do(t, event(given))
				b.do(t, down())
				if !slices.Equal(given[:cap(given)], was) {
					t.Errorf("R3: phase %d, %.60x: the frame was changed, or the room behind it", phase, frame)
				}
			}
		}
	}
}

// What is held or queued is the engine's own: what was handed in may be written over.
func TestWrittenOverFrames(t *testing.T) {
	x := of(t, policyOf(t, "demand udp", "hold 5", "class a 9 tcp", "rest 9"), api.Counts{})
	do := func(frame []byte, want api.Out) {
		t.Helper()
		given := roomy(frame)
		if o, e := x.Do(out(given)); !sameOut(o, want) || e != api.OK {
			t.Fatalf("P24.2: %s, %d; want %s", toldOut(o), e, toldOut(want))
		}
		scribble(given)
	}
	do(g(), dials(held()))
	do(tcp(), fate(held()))
	do(lcp(), fate(held()))
	do(nil, fate(held()))
	played(t, x.Play(up(plain())), sent(queued(1), queued(0), queued(1), queued(1)))
	do(numbered(3), fate(queued(1)))
	do(tcp(), fate(queued(0)))
	do(longest(), fate(queued(1)))
	want := []api.Out{taken(0, tcp()), taken(0, tcp()), taken(1, g()), taken(1, lcp()), taken(1, nil), taken(1, numbered(3)), taken(1, longest()), nothing()}
	played(t, x.Play(take(), take(), take(), take(), take(), take(), take(), take()), want...)
}

// Nor is a list of events kept, or changed.
func TestEventsStay(t *testing.T) {
	x := of(t, policyOf(t, "demand udp", "hold 5"), api.Counts{})
	script := []api.Event{out(g()), up(rich()), out(lcp()), {Kind: 9}, tick()}
	whole := append(slices.Clone(script), down(), down())
	given := whole[:len(script)]
	played(t, x.Play(given...), dials(held()), sent(queued(0)), fate(queued(0)), nothing(), nothing())
	for n, v := range append(slices.Clone(script), down(), down()) {
		if whole[n].Kind != v.Kind || whole[n].Link != v.Link || !slices.Equal(whole[n].Frame, v.Frame) {
			t.Errorf("R3: event %d was changed: %s", n, toldEvent(whole[n]))
		}
	}
	for n := range whole {
		scribble(whole[n].Frame)
		whole[n] = api.Event{Kind: 7}
	}
	played(t, x.Play(take(), take(), take()), taken(0, g()), taken(0, lcp()), nothing())
}

// What is told is new memory each time: written over, or appended to, it changes nothing that is told later, or was told ahead.
func TestHandedOutIsNew(t *testing.T) {
	b := bothSaid(t, "demand udp", "hold 5", "class a 2 tcp", "rest 9")
	outs := b.x.Play(out(g()), out(g()), out(lcp()), up(plain()), take(), take(), take())
	want := []api.Out{dials(held()), fate(held()), fate(held()), sent(queued(1), queued(1), queued(1)), taken(1, g()), taken(1, g()), taken(1, lcp()), nothing()}
	played(t, outs, want[:7]...)
	for n := range 3 {
		frame := outs[4+n].Frame
		scribble(frame)
		_ = append(frame, 1, 2, 3)
	}
	if !bytes.Equal(outs[5].Frame, outs[4].Frame) || &outs[4].Frame[0] == &outs[5].Frame[0] {
		t.Errorf("R3: two frames that were taken share memory")
	}
	for n := range outs[3].Held {
		outs[3].Held[n] = api.Fate{Kind: 99}
	}
	_ = append(outs[3].Held, api.Fate{})
	clear(outs[:cap(outs)])
	again := b.x.Play(down(), out(g()), out(g()), out(lcp()), up(plain()), take(), take(), take())
	played(t, again[1:], want[:7]...)
}

func TestStateIsNew(t *testing.T) {
	x := of(t, policyOf(t, "class a 2 udp", "rest 9"), api.Counts{})
	x.Play(up(plain()), out(g()), out(lcp()), out(lcp()))
	want := api.State{Phase: api.PhaseUp, Lens: []int{1, 2}}
	first := x.State()
	second := x.State()
	for at := range first.Lens[:cap(first.Lens)] {
		first.Lens[:cap(first.Lens)][at] = 77
	}
	_ = append(first.Lens, 5)
	first.Phase = 9
	if !sameState(second, want) || !sameState(x.State(), want) {
		t.Errorf("R3: State: %+v, %+v; want %+v", second, x.State(), want)
	}
	c := x.Counts()
	c.Queued = 99
	if x.Counts() != (api.Counts{Queued: 3}) {
		t.Errorf("R3: Counts: %+v", x.Counts())
	}
	played(t, x.Play(take(), take(), take(), take()), taken(0, g()), taken(1, lcp()), taken(1, lcp()), nothing())
}

// Asking changes nothing.
func TestAskingChangesNothing(t *testing.T) {
	for _, phase := range phases() {
		b := inPhase(t, phase)
		state, counts := b.x.State(), b.x.Counts()
		for range 3 {
			b.x.Counts()
			b.x.State()
		}
		if !sameState(b.x.State(), state) || b.x.Counts() != counts {
			t.Errorf("P24.4: asking changed something: %+v, %+v", b.x.State(), b.x.Counts())
		}
	}
}

// tape is what an engine told at each event of a script, and where it stood behind it.
type tape struct {
	outs   []api.Out
	errs   []api.Errno
	states []api.State
	counts []api.Counts
}

func (a *tape) put(x *engine.Engine, v api.Event) {
	o, e := x.Do(v)
	a.outs, a.errs, a.states, a.counts = append(a.outs, o), append(a.errs, e), append(a.states, x.State()), append(a.counts, x.Counts())
}

func taped(x *engine.Engine, script []api.Event) *tape {
	a := &tape{}
	for _, v := range script {
		a.put(x, v)
	}
	return a
}

func (a *tape) same(t testing.TB, other *tape, what string) {
	t.Helper()
	for n := range a.outs {
		if !sameOut(a.outs[n], other.outs[n]) || a.errs[n] != other.errs[n] || !sameState(a.states[n], other.states[n]) || a.counts[n] != other.counts[n] {
			t.Fatalf("R4: %s: event %d: %s, %d, %+v; want %s, %d, %+v", what, n, toldOut(other.outs[n]), other.errs[n], other.counts[n], toldOut(a.outs[n]), a.errs[n], a.counts[n])
		}
	}
}

// Two engines of one policy, given the same events, tell the same: one behind the other, by turns, and side by side.
func TestTwoEnginesOfOnePolicy(t *testing.T) {
	chance := rand.New(rand.NewSource(41))
	for range 8 {
		p := policyByChance(t, chance)
		script := scriptByChance(chance, 400)
		from := api.Counts{Forward: chance.Uint32(), Down: top - 9}
		want := taped(of(t, p, from), script)
		want.same(t, taped(of(t, p, from), script), "one behind the other")
		x, y, other := of(t, p, from), of(t, p, from), of(t, everything(t), api.Counts{})
		first, second := &tape{}, &tape{}
		for n, v := range script {
			first.put(x, v)
			other.Do(script[len(script)-1-n])
			second.put(y, v)
		}
		want.same(t, first, "by turns, the first")
		want.same(t, second, "by turns, the second")
		var side sync.WaitGroup
		for range 6 {
			side.Go(func() {
				y, e := engine.New(p, from)
				if e != api.OK {
					t.Errorf("P24.1: %d", e)
					return
				}
				got := taped(y, script)
				for n := range script {
					if !sameOut(got.outs[n], want.outs[n]) || got.counts[n] != want.counts[n] {
						t.Errorf("R4: side by side: event %d: %s; want %s", n, toldOut(got.outs[n]), toldOut(want.outs[n]))
						return
					}
				}
			})
		}
		side.Wait()
	}
}

// What happens to one engine, of whatever policy, is nothing to another.
func TestEnginesAreByThemselves(t *testing.T) {
	p := policyOf(t, "demand udp", "hold 3", "class a 2 tcp", "idle 2")
	x, y := of(t, p, api.Counts{}), of(t, p, api.Counts{})
	x.Play(out(g()), up(rich()), out(tcp()), tick())
	if !sameState(y.State(), api.State{Lens: []int{0, 0}}) || y.Counts() != (api.Counts{}) {
		t.Errorf("R4: %+v, %+v", y.State(), y.Counts())
	}
	y.Play(out(g()), down(), tick(), tick(), tick())
	if !sameState(x.State(), api.State{Phase: api.PhaseUp, Link: rich(), Idle: 1, Conn: 1, Lens: []int{1, 1}}) {
		t.Errorf("R4: %+v", x.State())
	}
}
