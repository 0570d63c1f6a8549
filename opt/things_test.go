package opt_test

import (
	"slices"
	"testing"

	"riddle/api"
	"riddle/graph"
	"riddle/insn"
)

// things tells which of the points of P17.2 a graph has something of, in their order.
func things(g []api.Block) []int {
	var has [9]bool
	reach, _ := graph.Reach(g)
	has[1] = slices.Contains(reach, false)
	var ways [api.MaxBlocks]int
	var read [api.MaxScratch]bool
	for _, b := range g {
		if b.End == api.EndGo || b.End == api.EndTest {
			ways[b.Yes]++
		}
		if b.End == api.EndTest {
			ways[b.No]++
		}
		for _, i := range b.Code {
			if i.Code == api.LdMem || i.Code == api.LdxMem {
				read[i.K] = true
			}
		}
	}
	for _, b := range g {
		has[2] = has[2] || b.End == api.EndTest && b.Yes == b.No
		has[3] = has[3] || b.End == api.EndGo && len(b.Code) == 0
		has[4] = has[4] || b.End == api.EndGo && ways[b.Yes] == 1
		if n := len(b.Code); n > 0 && b.Code[n-1].Code == api.LdImm && b.End == api.EndTest {
			switch b.Last.Code {
			case api.JeqK, api.JgtK, api.JgeK, api.JsetK:
				has[5] = true
			}
		}
		for at, i := range b.Code {
			has[8] = has[8] || (i.Code == api.St || i.Code == api.Stx) && !read[i.K]
			if at == 0 {
				continue
			}
			switch ahead := b.Code[at-1].Code; insn.Class(i.Code) {
			case api.ClassAlu:
				looks, _, _ := insn.Uses(i.Code)
				has[6] = has[6] || ahead == api.LdImm && (looks || i.Code == api.Neg)
			case api.ClassLd:
				has[7] = has[7] || ahead == api.LdImm || ahead == api.LdMem || ahead == api.LdLen
			}
		}
	}
	var out []int
	for point, is := range has {
		if is {
			out = append(out, point)
		}
	}
	return out
}

// TestEachThingByItself has graphs with one of the points each.
func TestEachThingByItself(t *testing.T) {
	b0, eq := k(api.LdAbsB, 0), k(api.JeqK, 5)
	type row struct {
		point int
		what  string
		g     []api.Block
	}
	rows := []row{
		{1, "a return behind a return", list(retA(b0), ret(3))},
		{1, "blocks that lead to each other", list(retA(b0), test(eq, 2, 3), goes(3, k(api.Tax, 0)), ret(9))},
		{1, "a block that leads into the middle", list(test(eq, 2, 3, b0), test(eq, 2, 3, k(api.LdLen, 0)), ret(1), ret(2))},
		{2, "a test with one goal", list(test(eq, 1, 1, b0), retA())},
		{2, "a test of X with one goal", list(test(k(api.JsetX, 0), 1, 1, b0, k(api.LdxLen, 0)), retA(k(api.AddX, 0)))},
		{2, "such a test behind another one", list(test(eq, 1, 2, b0), test(k(api.JgtK, 2), 2, 2, k(api.LdAbsB, 1)), retA())},
		{3, "a block with a go alone", list(test(eq, 1, 2, b0), goes(2), test(k(api.JgtK, 2), 3, 4, k(api.LdAbsB, 1)), ret(1), retA())},
		{4, "a go to a block of its own", list(test(eq, 1, 2, b0), goes(3, k(api.AddK, 1)), ret(7), retA(k(api.MulK, 3)))},
		{4, "a go to a test of its own", list(goes(1, b0), test(eq, 2, 3), ret(1), ret(2))},
	}
	for _, q := range each(questions()) {
		looks, _, _ := insn.Uses(q.Code)
		if looks {
			rows = append(rows, row{5, "a test of a constant", list(test(q, 1, 2, b0, k(api.St, 1), k(api.LdImm, 5)), retA(k(api.LdMem, 1)), ret(2))})
		}
	}
	for _, i := range each(straights()) {
		looks, _, _ := insn.Uses(i.Code)
		switch class := insn.Class(i.Code); {
		case class == api.ClassAlu && (looks || i.Code == api.Neg):
			rows = append(rows, row{6, "an operation on a constant", list(retA(k(api.LdImm, 1000), i))}, row{6, "an operation on nought", list(retA(k(api.LdImm, 0), i))})
		case class == api.ClassLd && i.Code != api.LdImm && i.Code != api.LdMem && i.Code != api.LdLen:
			for _, first := range []api.Insn{k(api.LdImm, 7), k(api.LdMem, 0), k(api.LdLen, 0)} {
				rows = append(rows, row{7, "a load on top of a load", list(retA(k(api.LdxImm, 1), first, i))})
				rows = append(rows, row{7, "a load on top of a load, X unknown", list(retA(k(api.LdxMsh, 0), first, i))})
			}
		}
	}
	for _, first := range []api.Insn{k(api.LdImm, 7), k(api.LdMem, 0), k(api.LdLen, 0)} {
		for _, second := range []api.Insn{k(api.LdImm, 7), k(api.LdImm, 8), k(api.LdMem, 0), k(api.LdLen, 0)} {
			rows = append(rows, row{7, "a load on top of a load, not of the packet", list(retA(first, second))})
		}
	}
	for cell := range uint32(api.MaxScratch) {
		rows = append(rows, row{8, "a word that nobody reads", list(retA(b0, k(api.St, cell)))}, row{8, "a word of X that nobody reads", list(retA(k(api.LdxMsh, 0), b0, k(api.Stx, cell), k(api.AddX, 0)))})
		other := (cell + 1) % api.MaxScratch
		rows = append(rows, row{8, "another word is read", list(retA(b0, k(api.St, cell), k(api.LdMem, other)))})
	}
	for _, r := range rows {
		if has := things(r.g); !slices.Equal(has, []int{r.point}) {
			t.Fatalf("%s: points %v; want %d alone: %+v", r.what, has, r.point, r.g)
		}
		improved(t, r.what, r.g, few())
	}
}

// TestThingsOnTheWay has what comes to be only when something else is gone.
func TestThingsOnTheWay(t *testing.T) {
	b0, b1, eq, above := k(api.LdAbsB, 0), k(api.LdAbsB, 1), k(api.JeqK, 5), k(api.JgtK, 5)
	becomes(t, "goes in a row", list(goes(1), goes(2), goes(3), goes(4), retA(b0)), retA(b0))
	becomes(t, "a go to the entry's own follower", list(goes(1, b0), goes(2, k(api.AddK, 1)), retA(k(api.MulK, 2))), retA(b0, k(api.AddK, 1), k(api.MulK, 2)))
	becomes(t, "a go that leaves blocks out", list(goes(3), ret(1), goes(3), ret(4)), ret(4))
	becomes(t, "a test both of whose goals are one behind goes", list(test(eq, 1, 2, b0), goes(3), goes(4), goes(5), goes(5), ret(6)), ret(6, b0))
	becomes(t, "a test whose one goal goes on to the other one", list(test(eq, 1, 2, b0), goes(2), ret(6)), ret(6, b0))
	becomes(t, "a test behind a test, both of one goal", list(test(eq, 1, 2, b0), test(k(api.JgtK, 7), 2, 2), goes(3), ret(6)), ret(6, b0))
	becomes(t, "a store that is read where no run comes", list(retA(b0, k(api.St, 2)), retA(k(api.LdMem, 2))), retA(b0))
	becomes(t, "a store that is read behind a test of a constant", list(test(eq, 1, 2, b0, k(api.St, 2), k(api.LdImm, 4)), retA(k(api.LdMem, 2)), ret(3)), ret(3, b0))
	becomes(t, "a way that a constant closes", list(test(eq, 1, 2, k(api.LdImm, 5)), goes(3, k(api.LdImm, 1)), goes(3, b0), retA(k(api.AddK, 1))), ret(2))
	becomes(t, "operations on constants in a row", list(retA(k(api.LdImm, 5), k(api.AddK, 2), k(api.Neg, 0), k(api.LshK, 4), k(api.Tax, 0), k(api.SubX, 0), k(api.OrK, 9))), ret(9))
	becomes(t, "a load of a word that holds a constant", list(retA(k(api.LdImm, 5), k(api.St, 1), b0, k(api.LdMem, 1), k(api.AddK, 2))), ret(7, b0))
	becomes(t, "a store that another one covers", list(retA(b0, k(api.St, 1), b1, k(api.St, 1), k(api.LdxMem, 1), k(api.AddX, 0))), retA(b0, b1, k(api.Tax, 0), k(api.AddX, 0)))
	becomes(t, "a load on top of a load behind a store that nobody reads", list(retA(k(api.LdLen, 0), k(api.St, 3), b0)), retA(b0))
	becomes(t, "a constant, an X that nobody reads, an operation", list(retA(k(api.LdImm, 6), k(api.LdxImm, 3), k(api.AddK, 1))), ret(7))
	becomes(t, "a test of a constant, behind a go", list(goes(1, k(api.LdImm, 5)), test(eq, 2, 3), ret(1), ret(2)), ret(1))
	becomes(t, "a go alone to which two blocks lead", list(test(above, 1, 2, b0), goes(3, k(api.AddK, 1)), goes(3), goes(4), retA()), test(above, 1, 2, b0), goes(2, k(api.AddK, 1)), retA())
	becomes(t, "tests that nothing is left of, one behind the other", list(test(eq, 1, 5, k(api.LdLen, 0)), test(k(api.JgtK, 1), 2, 5), test(k(api.JsetK, 4), 3, 5, k(api.LdMem, 2)), test(k(api.JgeK, 9), 4, 5), goes(5, k(api.St, 2)), ret(8)), ret(8))
}

// TestThingsOfASecondRound has blocks of which only the leading past others shows that a way into them is none: what they do is a thing by then, and was not at first.
func TestThingsOfASecondRound(t *testing.T) {
	b0 := k(api.LdAbsB, 0)
	// Either way past the second test its answer is no, but for different words: what is known where they meet does not tell.
	meeting := func(last ...api.Block) []api.Block {
		return append(list(
			test(k(api.JgtK, 5), 1, 2, b0), goes(3, k(api.LdImm, 1)), goes(3, k(api.LdImm, 2)), test(k(api.JeqK, 3), 4, 5),
			goes(6, k(api.LdImm, 9), k(api.St, 2)), goes(6, k(api.LdImm, 5)),
		), last...)
	}
	show := retA(k(api.LdMem, 4), k(api.LdxMem, 5), k(api.AddX, 0))
	for _, row := range []struct {
		point int
		last  []api.Block
		want  []api.Block
	}{
		{5, list(test(k(api.JeqK, 5), 7, 8), ret(1, k(api.LdAbsB, 1)), ret(2)), list(ret(1, b0, k(api.LdAbsB, 1)))},
		{6, list(retA(k(api.AddK, 1), k(api.St, 4), k(api.LdAbsB, 1), k(api.St, 5), k(api.LdMem, 4), k(api.LdxMem, 5), k(api.AddX, 0))), nil},
		{6, list(retA(k(api.Neg, 0), k(api.St, 4), k(api.LdAbsB, 1), k(api.St, 5), k(api.LdMem, 4), k(api.LdxMem, 5), k(api.AddX, 0))), nil},
		{7, list(goes(7, k(api.St, 4), k(api.LdMem, 2), k(api.AddK, 1), k(api.LdAbsB, 1), k(api.St, 5)), show), nil},
		{8, list(test(k(api.JeqK, 9), 7, 8, k(api.LdAbsB, 1), k(api.St, 4), k(api.LdMem, 2)), retA(k(api.LdMem, 4)), ret(8)), list(ret(8, b0, k(api.LdAbsB, 1)))},
	} {
		g := meeting(row.last...)
		if has := things(g); slices.Contains(has, row.point) {
			t.Fatalf("point %d at first: %v: %+v", row.point, has, g)
		}
		h := improved(t, "a second round", g, few())
		if row.want != nil && !same(h, row.want) {
			t.Errorf("point %d: %+v; want %+v", row.point, h, row.want)
		}
	}
}

// TestTheThingsAreSeen holds the tests' own eyes to graphs that have all points, or none.
func TestTheThingsAreSeen(t *testing.T) {
	all := list(
		test(k(api.JeqK, 5), 1, 1, k(api.LdLen, 0), k(api.LdImm, 3), k(api.AddK, 2), k(api.St, 0), k(api.LdImm, 5)),
		goes(2), goes(3, k(api.Tax, 0)), ret(1), ret(2),
	)
	if has := things(all); !slices.Equal(has, []int{1, 2, 3, 4, 5, 6, 7, 8}) {
		t.Errorf("all points: %v", has)
	}
	becomes(t, "all points", all, ret(1))
	none := list(
		test(k(api.JeqX, 0), 1, 2, k(api.LdAbsB, 0), k(api.St, 3), k(api.LdxMem, 3), k(api.LdImm, 5)),
		goes(3, k(api.LdLen, 0), k(api.AddX, 0)), goes(3, k(api.LdImm, 5), k(api.AddX, 0), k(api.AddK, 1)), retA(),
	)
	if has := things(none); len(has) > 0 {
		t.Errorf("no point: %v", has)
	}
	improved(t, "no point", none, few())
}
