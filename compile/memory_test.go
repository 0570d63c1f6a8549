package compile_test

import (
	"math/rand"
	"slices"
	"sync"
	"testing"

	"riddle/api"
	"riddle/compile"
)

// call is a source, its tree, a link, and the program that it was first.
type call struct {
	s    string
	l    []api.Node
	link api.Link
	p    []api.Insn
}

func calls(t *testing.T, seed int64) []call {
	t.Helper()
	chance := rand.New(rand.NewSource(seed))
	var out []call
	for i := range 250 {
		s, l := written(chance, i%7)
		link := links()[i%12]
		out = append(out, call{s, l, link, ofSource(t, s, link)})
	}
	for i, part := range costly() {
		s, link := heaviest(part, " or "), links()[i%12]
		out = append(out, call{s, treeOf(t, s), link, ofSource(t, s, link)})
	}
	return out
}

// same asks again for what was asked for.
func (c call) same(t *testing.T, what string) {
	t.Helper()
	if p, place, e := compile.Compile(c.s, c.link); place != 0 || e != api.OK || !slices.Equal(p, c.p) {
		t.Errorf("R4: %.200q, %+v: another program %s: %v, %d, %d; want %v", c.s, c.link, what, p, place, e, c.p)
	}
	if p, e := compile.Tree(c.l, c.link); e != api.OK || !slices.Equal(p, c.p) {
		t.Errorf("R4: %.200q, %+v: another program of its tree %s: %v, %d; want %v", c.s, c.link, what, p, e, c.p)
	}
}

// Nothing hangs on what was asked for ahead, nor on what is asked for beside it.
func TestSameEachTime(t *testing.T) {
	all := calls(t, 21)
	for i := range all {
		all[i*7%len(all)].same(t, "later")
		compile.Compile("1/0=1", all[i].link)
		compile.Tree(nil, plain())
	}
	var side sync.WaitGroup
	for worker := range 8 {
		side.Go(func() {
			for i := range all {
				all[(i+31*worker)%len(all)].same(t, "side by side")
			}
		})
	}
	side.Wait()
}

// The list that was handed in stays, the room behind it too; what stands in that room counts for nothing.
func TestHandedInStays(t *testing.T) {
	for _, c := range calls(t, 22) {
		all := append(slices.Clone(c.l), kind(api.NodeNot), number(9), kind(99))
		was := slices.Clone(all)
		inRoom := all[:len(c.l)]
		p := ofTree(t, inRoom, c.link)
		if !slices.Equal(all, was) {
			t.Fatalf("R3: %.200q: what was handed in was changed", c.s)
		}
		if !slices.Equal(p, c.p) {
			t.Errorf("R3: %.200q: what stands behind the list counts", c.s)
		}
		// Neither does the answer share its memory.
		spoil(p)
		if !slices.Equal(all, was) {
			t.Fatalf("R3: %.200q: the answer shares memory with what was handed in", c.s)
		}
		p = ofTree(t, inRoom, c.link)
		for at := range all {
			all[at] = kind(98)
		}
		if !slices.Equal(p, c.p) {
			t.Errorf("R3: %.200q: the answer shares memory with what was handed in", c.s)
		}
	}
}

// A list that is refused stays too.
func TestRefusedStays(t *testing.T) {
	for e, lists := range noFilters() {
		for _, l := range lists {
			all := append(slices.Clone(l), word(api.OfIP), kind(99))
			was := slices.Clone(all)
			refusesTree(t, all[:len(l)], plain(), e)
			refusesTree(t, all[:len(l)], api.Link{MP: 3}, api.ErrCompileLink)
			if !slices.Equal(all, was) {
				t.Errorf("R3: %v: what was handed in was changed", told(l))
			}
		}
	}
}

// spoil writes over a program and the room behind it.
func spoil(p []api.Insn) {
	room := p[:cap(p)]
	for at := range room {
		room[at] = api.Insn{Code: api.LdxLen, Jt: 9, Jf: 9, K: 99}
	}
}

// What is handed out is memory of its own, with nothing behind it.
func TestHandedOutIsNew(t *testing.T) {
	for _, c := range calls(t, 23) {
		want := slices.Clone(c.p)
		p, other := ofSource(t, c.s, c.link), ofTree(t, c.l, c.link)
		for _, p := range [][]api.Insn{p, other} {
			if slices.ContainsFunc(p[len(p):cap(p)], func(i api.Insn) bool { return i != api.Insn{} }) {
				t.Errorf("R3: %.200q: something stands behind the program", c.s)
			}
		}
		_ = append(p, api.Insn{Code: api.LdxLen})
		spoil(p)
		if !slices.Equal(other, want) || !slices.Equal(c.p, want) {
			t.Errorf("R3: %.200q: two answers share memory", c.s)
		}
		spoil(other)
		c.same(t, "behind one that was written over")
	}
}
