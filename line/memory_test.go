package line_test

import (
	"reflect"
	"slices"
	"sync"
	"testing"

	"riddle/api"
	"riddle/line"
)

func linear(t testing.TB, g []api.Block) []api.Insn {
	t.Helper()
	p, e := line.Linear(g)
	if e != api.OK {
		t.Fatalf("P18.1: %d: %+v", e, short(g))
	}
	return p
}

// copied tells a graph's copy.
func copied(g []api.Block) []api.Block {
	out := slices.Clone(g)
	for n := range out {
		out[n].Code = slices.Clone(out[n].Code)
	}
	return out
}

// some tells graphs of all kinds.
func some(seed int64) [][]api.Block {
	m := newMaker(seed)
	var out [][]api.Block
	for n := range 200 {
		out = append(out, m.graph(1+m.Intn(12), 3, 6))
		if n%10 == 0 {
			out = append(out, m.graph(200+m.Intn(400), 2, 300))
		}
	}
	return append(out, list(ret(7)), list(ret(7, many(5)...)), list(goes(1), retA()), apart(k(api.JgtK, 3), 300, 400), ladder(700, func(at int) bool { return at%3 == 0 }))
}

// TestSameEachTime: nothing hangs on what was asked for ahead, nor on what is asked for beside it.
func TestSameEachTime(t *testing.T) {
	graphs := some(21)
	var want [][]api.Insn
	for _, g := range graphs {
		want = append(want, linear(t, g))
	}
	for n := range graphs {
		at := n * 7 % len(graphs)
		if p := linear(t, copied(graphs[at])); !slices.Equal(p, want[at]) {
			t.Errorf("R4: %v, then %v", want[at], p)
		}
	}
	var side sync.WaitGroup
	for worker := range 8 {
		side.Go(func() {
			for n := range graphs {
				at := (n + 31*worker) % len(graphs)
				if p, e := line.Linear(graphs[at]); e != api.OK || !slices.Equal(p, want[at]) {
					t.Errorf("R4: side by side: %v, %d, then %v", want[at], e, p)
				}
			}
		})
	}
	side.Wait()
}

// roomy tells a graph with room behind each list, in which stands what must not be looked at, and all of that memory.
func roomy(g []api.Block) (inRoom, all []api.Block) {
	all = append(copied(g), api.Block{End: 99}, goes(0), ret(3))
	for n := range g {
		all[n].Code = append(all[n].Code, k(api.Ja, 9), k(8, 0), k(api.LdImm, 77))[:len(g[n].Code)]
	}
	return all[:len(g)], all
}

// whole tells a graph's copy with all that stands in the room of its lists.
func whole(all []api.Block) []api.Block {
	out := slices.Clone(all)
	for n := range out {
		out[n].Code = slices.Clone(out[n].Code[:cap(out[n].Code)])
	}
	return out
}

func TestHandedInStays(t *testing.T) {
	for _, g := range some(22) {
		inRoom, all := roomy(g)
		was := whole(all)
		p := linear(t, inRoom)
		if !reflect.DeepEqual(whole(all), was) {
			t.Fatalf("R3: what was handed in was changed: %+v, was %+v", whole(all), was)
		}
		if !slices.Equal(p, linear(t, copied(g))) {
			t.Errorf("R3: what stands behind the lists counts: %+v", g)
		}
		// Nor does it change when the answer is written over.
		want := slices.Clone(p)
		spoil(p)
		if !reflect.DeepEqual(whole(all), was) {
			t.Fatalf("R3: the answer shares memory with what was handed in: %+v, was %+v", whole(all), was)
		}
		// What was handed in is not kept: it may be written over.
		p = linear(t, inRoom)
		for n := range all {
			spoil(all[n].Code)
			all[n] = api.Block{End: 98}
		}
		if !slices.Equal(p, want) {
			t.Errorf("R3: the answer shares memory with what was handed in: %v", p)
		}
	}
}

// spoil writes over a list and the room behind it.
func spoil(code []api.Insn) {
	room := code[:cap(code)]
	for at := range room {
		room[at] = k(api.LdxLen, 99)
	}
}

func TestHandedOutIsNew(t *testing.T) {
	for _, g := range some(23) {
		want := slices.Clone(linear(t, g))
		p := linear(t, g)
		if room := p[:cap(p)]; slices.ContainsFunc(room[len(p):], func(i api.Insn) bool { return i != api.Insn{} }) {
			t.Errorf("R3: something stands behind a program: %v", room)
		}
		other := linear(t, g)
		_ = append(p, k(api.LdxLen, 99))
		spoil(p)
		if !slices.Equal(other, want) {
			t.Errorf("R3: two answers share memory: %v; want %v", other, want)
		}
		if again := linear(t, g); !slices.Equal(again, want) {
			t.Errorf("R3: what was handed out is kept: %v; want %v", again, want)
		}
	}
}

// TestRefusedStays: a graph that is refused is left as it is too.
func TestRefusedStays(t *testing.T) {
	for _, g := range [][]api.Block{greatest(), list(ret(0, many(api.MaxProgram)...)), list(goes(0, many(3)...)), list(test(k(api.JeqK, 1), 1, 2, many(2)...), ret(1))} {
		inRoom, all := roomy(g)
		was := whole(all)
		if p, e := line.Linear(inRoom); e == api.OK || len(p) != 0 {
			t.Errorf("P18.1: %d instructions, %d", len(p), e)
		}
		if !reflect.DeepEqual(whole(all), was) {
			t.Errorf("R3: what was handed in was changed: %+v", short(all))
		}
	}
}
