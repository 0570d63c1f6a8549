package engine_test

import (
	"testing"

	"riddle/api"
)

// counters tells the counts, in the order of api.Counts.
func counters(c *api.Counts) []*uint32 {
	return []*uint32{&c.Forward, &c.Queued, &c.Held, &c.Taken, &c.Long, &c.Down, &c.Pass, &c.Hold, &c.Full, &c.Lost, &c.Dials, &c.Idles, &c.Mosts}
}

// way is how one count comes to grow: what goes ahead, and the event at which it grows.
type way struct {
	name  string
	ahead []api.Event
	at    api.Event
	grown []string
}

// counting is a policy with which all counts can grow.
func counting(t testing.TB) api.Policy {
	t.Helper()
	return policyOf(t, "pass not tcp", "active udp", "demand udp", "class a 1 udp", "rest 2", "idle 1", "most 1", "hold 1")
}

// namesOf tells the names of the counts, in their order.
func namesOf() []string {
	return []string{"Forward", "Queued", "Held", "Taken", "Long", "Down", "Pass", "Hold", "Full", "Lost", "Dials", "Idles", "Mosts"}
}

// eachWay tells for each thing that is counted by which events it is.
func eachWay() []way {
	isUp := []api.Event{up(plain())}
	one := []api.Event{up(plain()), out(g())}
	dialled := []api.Event{out(g())}
	list := func(names ...string) []string { return names }
	return []way{
		{"comes in", isUp, in(g()), list("Forward")},
		{"comes in, not active", isUp, in(lcp()), list("Forward")},
		{"goes out", isUp, out(g()), list("Queued")},
		{"goes out, not active", isUp, out(lcp()), list("Queued")},
		{"dials, held", nil, out(g()), list("Dials", "Held")},
		{"dials, none held more", dialled, out(g()), list("Hold")},
		{"is taken", one, take(), list("Taken")},
		{"nothing to take", isUp, take(), nil},
		{"too long, in, down", nil, in(tooLong()), list("Long")},
		{"too long, in, dialling", dialled, in(tooLong()), list("Long")},
		{"too long, in, up", isUp, in(tooLong()), list("Long")},
		{"too long, out, down", nil, out(tooLong()), list("Long")},
		{"too long, out, dialling", dialled, out(tooLong()), list("Long")},
		{"too long, out, up", isUp, out(tooLong()), list("Long")},
		{"comes in, down", nil, in(g()), list("Down")},
		{"comes in, dialling", dialled, in(g()), list("Down")},
		{"goes out, down", nil, out(lcp()), list("Down")},
		{"does not pass, in", isUp, in(tcp()), list("Pass")},
		{"does not pass, out", isUp, out(tcp()), list("Pass")},
		{"does not pass, dialling", dialled, out(tcp()), list("Pass")},
		{"no room", one, out(g()), list("Full")},
		{"held, then sent", dialled, up(plain()), list("Queued")},
		{"lost from the queue", one, down(), list("Lost")},
		{"lost while held", dialled, down(), list("Lost")},
		{"nothing lost", isUp, down(), nil},
		{"down already", nil, down(), nil},
		{"idle", isUp, tick(), list("Idles")},
		{"idle, and one lost", one, tick(), list("Idles", "Lost")},
		{"a tick, down", nil, tick(), nil},
		{"a tick, dialling", dialled, tick(), nil},
		{"up", nil, up(plain()), nil},
		{"refused", nil, api.Event{Kind: 9}, nil},
	}
}

// Each thing that is counted grows the counts that it is to grow by one, and no other; from 0, from some, from just below MaxCount; and at it they stay.
func TestEachCount(t *testing.T) {
	for _, w := range eachWay() {
		for _, from := range []uint32{0, 1, 1000, 1<<31 - 1, 1 << 31, top - 4, top - 1, top} {
			var start api.Counts
			for _, c := range counters(&start) {
				*c = from
			}
			b := bothOf(t, counting(t), start)
			for _, v := range w.ahead {
				b.do(t, v)
			}
			before := b.x.Counts()
			b.do(t, w.at)
			after := b.x.Counts()
			for n, name := range namesOf() {
				want := *counters(&before)[n]
				for _, g := range w.grown {
					if g == name {
						more(&want, 1)
					}
				}
				if got := *counters(&after)[n]; got != want {
					t.Errorf("P24.2: %s, from %d: %s is %d; want %d", w.name, from, name, got, want)
				}
			}
		}
	}
}

func TestMostsCount(t *testing.T) {
	for _, from := range []uint32{0, 7, top - 2, top - 1, top} {
		b := bothOf(t, policyOf(t, "most 1"), api.Counts{Mosts: from, Idles: 5})
		want := from
		for range 4 {
			b.play(t, step{up(plain()), sent()}, step{tick(), hangs(api.HangMost)})
			more(&want, 1)
			b.counted(t, api.Counts{Mosts: want, Idles: 5})
		}
	}
}

// One count at MaxCount stays there, and stops no other; what the engine does is the same.
func TestOneCountAtItsEnd(t *testing.T) {
	script := []api.Event{out(lcp()), out(g()), out(g()), out(tcp()), in(g()), in(tooLong()), up(plain()), out(g()), out(lcp()), out(tcp()), in(g()), in(tcp()), take(), tick(), up(plain()), out(g()), down(), out(g()), down()}
	clean := of(t, counting(t), api.Counts{})
	want := clean.Play(script...)
	for n := range namesOf() {
		for below := range 3 {
			var from api.Counts
			*counters(&from)[n] = top - uint32(below)
			x := of(t, counting(t), from)
			played(t, x.Play(script...), want...)
			grown, got := clean.Counts(), x.Counts()
			end := uint32(min(uint64(top), uint64(top-below)+uint64(*counters(&grown)[n])))
			*counters(&grown)[n] = end
			if got != grown {
				t.Errorf("P24.4: %s from %d: %+v; want %+v", namesOf()[n], top-below, got, grown)
			}
		}
	}
}

// Lost grows by all frames at once, and stops at MaxCount.
func TestLostStops(t *testing.T) {
	for _, x := range []struct{ from, want uint32 }{{0, 5}, {10, 15}, {top - 6, top - 1}, {top - 5, top}, {top - 4, top}, {top - 1, top}, {top, top}} {
		b := bothOf(t, policyOf(t, "rest 5"), api.Counts{Lost: x.from})
		b.do(t, up(plain()))
		for range 6 {
			b.do(t, out(g()))
		}
		b.do(t, down())
		b.counted(t, api.Counts{Queued: 5, Full: 1, Lost: x.want})
	}
}
