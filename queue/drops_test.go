package queue

import (
	"slices"
	"testing"

	"riddle/api"
)

// So many frames can't be dropped in a test: the counts are set ahead.
func TestDropsStop(t *testing.T) {
	q, e := New(1, 1, 1)
	if e != api.OK {
		t.Fatal(e)
	}
	for class, count := range []uint32{api.MaxCount - 2, api.MaxCount, 5} {
		q.classes[class].count = count
		q.Put(class, []byte{1})
	}
	for round, want := range [][]uint32{
		{api.MaxCount - 1, api.MaxCount, 6},
		{api.MaxCount, api.MaxCount, 7},
		{api.MaxCount, api.MaxCount, 8},
		{api.MaxCount, api.MaxCount, 9},
	} {
		for class := range 3 {
			if ok, e := q.Put(class, []byte{2}); ok || e != api.OK {
				t.Errorf("P21.2: round %d: Put(%d) = %v, %d", round, class, ok, e)
			}
		}
		if got := q.Dropped(); !slices.Equal(got, want) {
			t.Errorf("P21.4: round %d: Dropped() = %d; want %d", round, got, want)
		}
	}
	q.Drain()
	if got := q.Dropped(); !slices.Equal(got, []uint32{api.MaxCount, api.MaxCount, 9}) {
		t.Errorf("P21.4: behind Drain: %d", got)
	}
}

// What was given away is kept alive by nothing: Take leaves no frame in the list's memory.
func TestTakenIsLeft(t *testing.T) {
	q, e := New(4)
	if e != api.OK {
		t.Fatal(e)
	}
	for n := range byte(4) {
		q.Put(0, []byte{n})
	}
	memory := q.classes[0].held
	for at := range 3 {
		q.Take()
		if memory[at] != nil {
			t.Errorf("frame %d is kept", at)
		}
	}
	q.Drain()
	if q.classes[0].held != nil {
		t.Errorf("what was drained is kept")
	}
}
