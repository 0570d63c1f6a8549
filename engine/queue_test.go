package engine_test

import (
	"fmt"
	"testing"

	"riddle/api"
)

// lines tells the lines of a policy with so many classes, each with its depth, by the source port.
func classLines(depths ...int) []string {
	var out []string
	for n, depth := range depths {
		out = append(out, fmt.Sprintf("class c%d %d src port %d", n, depth, 100+n))
	}
	return out
}

// ofClass is a frame of a class of these, with a number.
func ofClass(class int, n int) []byte {
	return with(numbered(n), 25, byte(100+class))
}

// No class, one, some and as many as may be, filled to their depth and past it; then taken in their order.
func TestClassesFilled(t *testing.T) {
	for _, depths := range [][]int{{}, {1}, {3}, {2, 1, 4}, {1, 2, 3, 4, 5, 6, 7, 8, 9, 10, 11, 12, 13, 14, 15, 16}} {
		rest := len(depths) + 2
		b := bothSaid(t, append(classLines(depths...), fmt.Sprintf("rest %d", rest))...)
		b.play(t, step{up(plain()), sent()})
		all := append(depths, rest)
		lens := make([]int, len(all))
		for turn := range 20 {
			for class := len(all) - 1; class >= 0; class-- {
				want := fate(full(class))
				if turn < all[class] {
					want = fate(queued(class))
					lens[class]++
				}
				b.play(t, step{out(ofClass(class, turn)), want})
				b.stands(t, api.State{Phase: api.PhaseUp, Lens: lens})
			}
		}
		for class, depth := range all {
			for n := range depth {
				b.play(t, step{take(), taken(class, ofClass(class, n))})
			}
		}
		b.play(t, step{take(), nothing()}, step{take(), nothing()})
		b.stands(t, api.State{Phase: api.PhaseUp, Lens: make([]int, len(all))})
	}
}

// The deepest queues that may be hold so many, and one more finds no room.
func TestDeepest(t *testing.T) {
	b := bothSaid(t, append(classLines(api.MaxDepth), "rest 1024")...)
	b.play(t, step{up(plain()), sent()})
	for n := range api.MaxDepth {
		b.play(t, step{out(ofClass(0, n)), fate(queued(0))}, step{out(ofClass(9, n)), fate(queued(1))})
	}
	b.play(t, step{out(ofClass(0, 7)), fate(full(0))}, step{out(ofClass(9, 7)), fate(full(1))}, step{take(), taken(0, ofClass(0, 0))}, step{out(ofClass(0, 7)), fate(queued(0))}, step{out(ofClass(0, 8)), fate(full(0))})
	b.play(t, step{down(), nothing()})
	b.counted(t, api.Counts{Queued: 2049, Full: 3, Taken: 1, Lost: 2048})
}

// None of a class is taken while one of a class ahead of it waits; what comes in between goes to its place.
func TestTakeInOrder(t *testing.T) {
	b := bothSaid(t, append(classLines(2, 2), "rest 2")...)
	b.play(t, step{take(), nothing()}, step{up(plain()), sent()}, step{take(), nothing()})
	b.play(t, step{out(ofClass(2, 1)), fate(queued(2))}, step{out(ofClass(1, 2)), fate(queued(1))}, step{take(), taken(1, ofClass(1, 2))})
	b.play(t, step{out(ofClass(0, 3)), fate(queued(0))}, step{out(ofClass(1, 4)), fate(queued(1))}, step{out(ofClass(0, 5)), fate(queued(0))}, step{out(ofClass(0, 6)), fate(full(0))})
	b.play(t, step{take(), taken(0, ofClass(0, 3))}, step{out(ofClass(0, 7)), fate(queued(0))}, step{take(), taken(0, ofClass(0, 5))}, step{take(), taken(0, ofClass(0, 7))}, step{take(), taken(1, ofClass(1, 4))}, step{take(), taken(2, ofClass(2, 1))}, step{take(), nothing()})
}

// A frame of several classes' filters goes to the first one; if there is no room, not to the next.
func TestFirstClass(t *testing.T) {
	b := bothSaid(t, "class z 1 udp", "class a 1 ip", "class b 1 inbound", "rest 1")
	b.play(t, step{up(plain()), sent()}, step{out(g()), fate(queued(0))}, step{out(g()), fate(full(0))}, step{out(tcp()), fate(queued(1))}, step{out(tcp()), fate(full(1))}, step{out(lcp()), fate(queued(3))}, step{out(lcp()), fate(full(3))})
	b.counted(t, api.Counts{Queued: 3, Full: 3})
}

// A frame of no bytes can wait, and is told when it is taken by its fate alone.
func TestEmptyFrameWaits(t *testing.T) {
	b := bothSaid(t, "rest 2", "class a 1 udp")
	b.play(t, step{up(plain()), sent()}, step{out(nil), fate(queued(1))}, step{out([]byte{}), fate(queued(1))}, step{out(nil), fate(full(1))}, step{take(), taken(1, nil)}, step{take(), taken(1, nil)}, step{take(), nothing()})
}

// A new link begins with an empty queue: what waited is lost at each hang-up.
func TestQueueOfANewLink(t *testing.T) {
	b := bothSaid(t, "class a 2 udp", "rest 1", "most 2")
	b.play(t, step{up(plain()), sent()}, step{out(g()), fate(queued(0))}, step{out(g()), fate(queued(0))}, step{out(lcp()), fate(queued(1))}, step{down(), nothing()}, step{take(), nothing()})
	b.play(t, step{up(plain()), sent()}, step{take(), nothing()}, step{out(g()), fate(queued(0))}, step{out(g()), fate(queued(0))}, step{out(g()), fate(full(0))}, step{tick(), nothing()}, step{tick(), hangs(api.HangMost)}, step{take(), nothing()})
	b.play(t, step{up(plain()), sent()}, step{take(), nothing()}, step{out(g()), fate(queued(0))}, step{take(), taken(0, g())})
	b.counted(t, api.Counts{Queued: 6, Full: 1, Taken: 1, Lost: 5, Mosts: 1})
}
