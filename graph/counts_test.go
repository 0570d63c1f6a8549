package graph_test

import (
	"slices"
	"testing"

	"riddle/api"
	"riddle/graph"
)

func expectCounts(t *testing.T, what string, g []api.Block, size, measure int) {
	t.Helper()
	n, e := graph.Size(g)
	m, f := graph.Measure(g)
	if n != size || m != measure || e != api.OK || f != api.OK {
		t.Errorf("P15.3: %s: Size %d, %d, Measure %d, %d; want %d and %d", what, n, e, m, f, size, measure)
	}
}

func TestSizeAndMeasure(t *testing.T) {
	tax := k(api.Tax, 0)
	jeq := k(api.JeqK, 0)
	expectCounts(t, "a return", list(ret(0)), 1, 1)
	expectCounts(t, "a return of A", list(retA()), 1, 1)
	expectCounts(t, "a return behind a Code", list(ret(0, tax, tax)), 3, 3)
	expectCounts(t, "a go", list(goes(1), ret(0)), 1, 2)
	expectCounts(t, "a go behind a Code", list(goes(1, tax), ret(0)), 2, 3)
	expectCounts(t, "a test", list(test(jeq, 1, 2), ret(0), ret(0)), 3, 5)
	expectCounts(t, "a test with one goal", list(test(jeq, 1, 1, tax, tax), ret(0)), 4, 6)
	expectCounts(t, "blocks that no run comes to", list(ret(0), goes(2, tax), test(jeq, 3, 3), ret(0, tax)), 5, 8)
	expectCounts(t, "all", list(test(jeq, 1, 2, tax), goes(3, tax, tax), test(jeq, 3, 4), goes(4), retA(tax)), 7, 13)
	expectCounts(t, "the greatest in gos", row(api.MaxBlocks, 0, ret(0)), api.MaxBlocks, 2*api.MaxBlocks-2)
	most := make([]api.Block, api.MaxBlocks)
	for at := range most {
		most[at] = test(jeq, at+1, at+1, tax)
	}
	most[api.MaxBlocks-1] = ret(0, tax)
	expectCounts(t, "the greatest", most, 2*api.MaxBlocks, 4*api.MaxBlocks-2)
}

// expectReach has the wanted answer as a text: a block that can be come to is a 1.
func expectReach(t *testing.T, what string, g []api.Block, want string) {
	t.Helper()
	reach, e := graph.Reach(g)
	text := ""
	for _, come := range reach {
		if come {
			text += "1"
		} else {
			text += "0"
		}
	}
	if e != api.OK || text != want {
		t.Errorf("P15.3: %s: %s, %d; want %s", what, text, e, want)
	}
}

func TestReach(t *testing.T) {
	jeq := k(api.JeqK, 0)
	expectReach(t, "a return", list(ret(0)), "1")
	expectReach(t, "behind a return", list(ret(0), ret(0), retA()), "100")
	expectReach(t, "a go", list(goes(1), ret(0)), "11")
	expectReach(t, "a go past a block", list(goes(2), ret(0), ret(0)), "101")
	expectReach(t, "both goals", list(test(jeq, 1, 2), ret(0), ret(0)), "111")
	expectReach(t, "both goals, the other way round", list(test(jeq, 2, 1), ret(0), ret(0)), "111")
	expectReach(t, "one goal", list(test(jeq, 2, 2), ret(0), ret(0)), "101")
	expectReach(t, "the first goal behind the second", list(test(jeq, 3, 1), goes(4), ret(0), ret(0), ret(0)), "11011")
	expectReach(t, "a block to which only what can't be come to goes", list(goes(3), goes(2), ret(0), ret(0)), "1001")
	expectReach(t, "a test that can't be come to", list(goes(4), test(jeq, 2, 3), ret(0), ret(0), ret(0)), "10001")
	expectReach(t, "goals that meet", list(test(jeq, 1, 2), goes(4), goes(4), ret(0), goes(5), ret(0)), "111011")
	expectReach(t, "a test behind a second goal", list(test(jeq, 1, 2), ret(0), test(jeq, 3, 5), goes(6), ret(0), ret(0), ret(0)), "1111011")
	expectReach(t, "a question whose answer is known", list(test(k(api.JgeK, 0), 1, 2), ret(0), ret(0)), "111")
}

// TestReachOfGreatGraphs would not end, if each way through them were gone by itself.
func TestReachOfGreatGraphs(t *testing.T) {
	all := make([]api.Block, api.MaxBlocks)
	for at := range all {
		all[at] = test(k(api.JeqK, 0), at+1, at+2)
	}
	all[api.MaxBlocks-2].No--
	all[api.MaxBlocks-1] = ret(0)
	reach, e := graph.Reach(all)
	if e != api.OK || len(reach) != api.MaxBlocks || slices.Contains(reach, false) {
		t.Errorf("P15.3: %d of them, %d", len(reach), e)
	}
	for at := range all[:api.MaxBlocks-2] {
		all[at] = goes(at + 2)
	}
	all[api.MaxBlocks-2] = goes(api.MaxBlocks - 1)
	reach, e = graph.Reach(all)
	for at, come := range reach {
		if e != api.OK || come != (at%2 == 0 || at == api.MaxBlocks-1) {
			t.Fatalf("P15.3: block %d: %v, %d", at, come, e)
		}
	}
}
