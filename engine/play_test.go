package engine_test

import (
	"testing"

	"riddle/api"
)

func played(t testing.TB, got []api.Out, want ...api.Out) {
	t.Helper()
	if len(got) != len(want) {
		t.Fatalf("P24.3: %d outs; want %d", len(got), len(want))
	}
	for n := range want {
		if !sameOut(got[n], want[n]) {
			t.Errorf("P24.3: event %d: %s; want %s", n, toldOut(got[n]), toldOut(want[n]))
		}
	}
}

// Play of none tells nothing, and does nothing.
func TestPlayNone(t *testing.T) {
	for _, phase := range phases() {
		b := inPhase(t, phase)
		played(t, b.x.Play())
		played(t, b.x.Play(nil...))
		played(t, b.x.Play([]api.Event{}...))
		b.stand(t)
	}
}

// Play of one tells what Do tells, of one that is refused a zero Out.
func TestPlayOne(t *testing.T) {
	for _, phase := range phases() {
		for _, v := range someEvents() {
			b, other := inPhase(t, phase), inPhase(t, phase)
			want, _ := b.do(t, v)
			played(t, other.x.Play(v), want)
			other.m = b.m
			other.stand(t)
		}
	}
}

// someEvents tells events of each kind, some of which are refused.
func someEvents() []api.Event {
	return []api.Event{
		in(g()), in(lcp()), in(tcp()), in(tooLong()), in(nil), out(g()), out(lcp()), out(tcp()), out(tooLong()), out(nil), tick(), up(plain()), up(rich()), up(api.Link{MP: 3}), down(), take(),
		{}, {Kind: 7}, {Kind: -1, Frame: g()}, {Kind: api.EventTick, Frame: g()}, {Kind: api.EventDown, Link: rich()}, {Kind: api.EventIn, Frame: g(), Link: rich()},
	}
}

// Play of many is Do of each, in their order; those that are refused count for nothing.
func TestPlayMany(t *testing.T) {
	b, x := inPhase(t, api.PhaseDown), inPhase(t, api.PhaseDown).x
	var script []api.Event
	var want []api.Out
	refused := 0
	for n := range 900 {
		script = append(script, someEvents()[n*n*7%len(someEvents())], someEvents()[n*5%len(someEvents())])
	}
	for _, v := range script {
		o, e := b.do(t, v)
		want = append(want, o)
		if e != api.OK {
			refused++
		}
	}
	if refused < 100 {
		t.Errorf("too few are refused: %d", refused)
	}
	played(t, x.Play(script...), want...)
	b.x = x
	b.stand(t)
}

// In two parts, one behind the other, Play does the same as at once.
func TestPlayInParts(t *testing.T) {
	script := []api.Event{out(g()), out(g()), up(rich()), out(lcp()), {}, tick(), take(), up(plain()), in(g()), take(), take(), tick(), down(), out(g())}
	want := inPhase(t, api.PhaseDown).x.Play(script...)
	for cut := range len(script) + 1 {
		x := inPhase(t, api.PhaseDown).x
		played(t, append(x.Play(script[:cut]...), x.Play(script[cut:]...)...), want...)
	}
}
