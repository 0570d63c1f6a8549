package compile_test

import (
	"math/rand"
	"slices"
	"testing"

	"riddle/api"
	"riddle/show"
)

// shownAgain holds what show makes of a filter to the filter's own program.
func shownAgain(t *testing.T, l []api.Node, link api.Link) {
	t.Helper()
	want := ofTree(t, l, link)
	s, e := show.Show(l)
	if e != api.OK {
		t.Fatalf("%v: %d", told(l), e)
	}
	if p := ofSource(t, s, link); !slices.Equal(p, want) {
		t.Errorf("T8: %.200q, %+v: another program than its tree's: %v; want %v", s, link, p, want)
	}
	full, e := show.Full(l)
	if e == api.ErrShowDeep {
		return
	}
	if p := ofSource(t, full, link); !slices.Equal(p, want) || e != api.OK {
		t.Errorf("T8: %.200q, %+v: another program than its tree's: %v, %d; want %v", full, link, p, e, want)
	}
}

func TestShownSources(t *testing.T) {
	for _, s := range sources() {
		for _, link := range links() {
			shownAgain(t, treeOf(t, s), link)
		}
	}
	for turn, part := range costly() {
		shownAgain(t, treeOf(t, heaviest(part, " or ")), links()[turn%12])
	}
}

// What was written at random, and shown, says of frames what it says as it was written.
func TestShownByChance(t *testing.T) {
	chance := rand.New(rand.NewSource(191))
	var n tally
	for i := range 400 {
		link := links()[i%12]
		s, l := written(chance, i%6)
		shownAgain(t, l, link)
		short, _ := show.Show(l)
		n.agrees(t, ofSource(t, short, link), treeOf(t, s), link, oneOf(101, i, wellFormed(link))...)
	}
	n.enough(t, 100)
}
