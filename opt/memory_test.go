package opt_test

import (
	"reflect"
	"slices"
	"sync"
	"testing"

	"riddle/api"
	"riddle/opt"
)

// some tells graphs by chance of which something is left.
func some(seed int64, n int) [][]api.Block {
	m := newMaker(seed)
	var out [][]api.Block
	for range n {
		out = append(out, m.graph(1+m.Intn(12), 3, 6))
	}
	return append(out, list(ret(7)), list(goes(1), ret(7)), list(retA(k(api.LdAbsB, 0))))
}

// TestSameEachTime: nothing hangs on what was asked for ahead, nor on what is asked for beside it.
func TestSameEachTime(t *testing.T) {
	graphs := some(21, 200)
	var want [][]api.Block
	for _, g := range graphs {
		want = append(want, improve(t, g))
	}
	for n := range graphs {
		at := n * 7 % len(graphs)
		if h := improve(t, copied(graphs[at])); !reflect.DeepEqual(h, want[at]) {
			t.Errorf("R4: %+v, then %+v", want[at], h)
		}
	}
	var side sync.WaitGroup
	for worker := range 8 {
		side.Go(func() {
			for n := range graphs {
				at := (n + 31*worker) % len(graphs)
				if h, e := opt.Improve(graphs[at]); e != api.OK || !reflect.DeepEqual(h, want[at]) {
					t.Errorf("R4: side by side: %+v, %d, then %+v", want[at], e, h)
				}
			}
		})
	}
	side.Wait()
}

// roomy tells a graph with room behind each list, in which stands what must not be looked at, and all of that memory.
func roomy(g []api.Block) (inRoom, all []api.Block) {
	all = append(copied(g), api.Block{End: 99}, goes(0), ret(3))
	for n := range g {
		all[n].Code = append(all[n].Code, k(api.Ja, 9), k(8, 0), k(api.LdImm, 77))[:len(g[n].Code)]
	}
	return all[:len(g)], all
}

// whole tells a graph's copy with all that stands in the room of its lists.
func whole(all []api.Block) []api.Block {
	out := slices.Clone(all)
	for n := range out {
		out[n].Code = slices.Clone(out[n].Code[:cap(out[n].Code)])
	}
	return out
}

func TestHandedInStays(t *testing.T) {
	for _, g := range some(22, 200) {
		inRoom, all := roomy(g)
		was := whole(all)
		h := improve(t, inRoom)
		if !reflect.DeepEqual(whole(all), was) {
			t.Fatalf("R3: what was handed in was changed: %+v, was %+v", whole(all), was)
		}
		if !reflect.DeepEqual(h, improve(t, copied(g))) {
			t.Errorf("R3: what stands behind the lists counts: %+v", g)
		}
		// What was handed in is not kept: it may be written over.
		want := copied(h)
		for n := range all {
			room := all[n].Code[:cap(all[n].Code)]
			for at := range room {
				room[at] = k(api.LdxLen, 99)
			}
			all[n] = api.Block{End: 98}
		}
		if !same(h, want) {
			t.Errorf("R3: the answer shares memory with what was handed in: %+v", h)
		}
	}
}

func TestHandedOutIsNew(t *testing.T) {
	wrong := k(api.LdxLen, 99)
	for _, g := range some(23, 200) {
		want := improve(t, g)
		h := improve(t, g)
		for n := range h {
			if room := h[n].Code[:cap(h[n].Code)]; slices.ContainsFunc(room[len(h[n].Code):], func(i api.Insn) bool { return i != api.Insn{} }) {
				t.Errorf("R3: something stands behind a Code: %v, %v", h[n].Code, room)
			}
			_ = append(h[n].Code, wrong, wrong)
			room := h[n].Code[:cap(h[n].Code)]
			for at := range room {
				room[at] = wrong
			}
			for other := range h {
				if other > n && !slices.Equal(h[other].Code, want[other].Code) {
					t.Fatalf("R3: the Codes of blocks %d and %d share memory", n, other)
				}
			}
		}
		if room := h[:cap(h)]; slices.ContainsFunc(room[len(h):], func(b api.Block) bool { return b.End != 0 || len(b.Code) > 0 }) {
			t.Errorf("R3: something stands behind the blocks: %+v", room)
		}
		room := h[:cap(h)]
		for n := range room {
			room[n] = api.Block{End: 99}
		}
		if again := improve(t, g); !reflect.DeepEqual(again, want) {
			t.Errorf("R3: what was handed out is kept: %+v; want %+v", again, want)
		}
	}
}
