package queue_test

import "testing"

func TestNothingToTake(t *testing.T) {
	for _, n := range []int{1, 2, 17} {
		q := of(t, many(n, 3)...)
		for range 3 {
			takesNone(t, q)
			drains(t, q)
		}
		holds(t, q, n-1, []byte{1})
		takes(t, q, n-1, []byte{1})
		takesNone(t, q)
		drains(t, q)
	}
}

// The least class comes first, however late its frames came.
func TestLeastClassFirst(t *testing.T) {
	q := of(t, many(17, 2)...)
	for class := 16; class >= 0; class-- {
		holds(t, q, class, []byte{byte(class), 1})
		holds(t, q, class, []byte{byte(class), 2})
	}
	for class := range 17 {
		takes(t, q, class, []byte{byte(class), 1})
		takes(t, q, class, []byte{byte(class), 2})
	}
	takesNone(t, q)
}

// A frame of a lesser class passes by what waits already.
func TestLesserClassPassesBy(t *testing.T) {
	q := of(t, 2, 2, 2)
	holds(t, q, 1, []byte{1})
	holds(t, q, 2, []byte{2})
	holds(t, q, 1, []byte{3})
	takes(t, q, 1, []byte{1})
	holds(t, q, 0, []byte{4})
	takes(t, q, 0, []byte{4})
	takes(t, q, 1, []byte{3})
	holds(t, q, 1, []byte{5})
	takes(t, q, 1, []byte{5})
	takes(t, q, 2, []byte{2})
	takesNone(t, q)
}

func TestDrain(t *testing.T) {
	q := of(t, 2, 1, 3)
	holds(t, q, 2, []byte{1})
	holds(t, q, 0, []byte{2})
	holds(t, q, 2, []byte{3})
	holds(t, q, 1, []byte{4})
	drops(t, q, 1, []byte{5})
	holds(t, q, 0, nil)
	drains(t, q, []byte{2}, nil, []byte{4}, []byte{1}, []byte{3})
	drains(t, q)
	takesNone(t, q)
	holds(t, q, 1, []byte{6})
	drains(t, q, []byte{6})
	stands(t, q, []int{0, 0, 0}, []uint32{0, 1, 0})
}

// What was taken leaves the rest in its order for Drain.
func TestDrainBehindTake(t *testing.T) {
	q := of(t, 3, 3)
	for n := range byte(3) {
		holds(t, q, 0, []byte{n})
		holds(t, q, 1, []byte{n, n})
	}
	takes(t, q, 0, []byte{0})
	holds(t, q, 0, []byte{3})
	drops(t, q, 0, []byte{4})
	drains(t, q, []byte{1}, []byte{2}, []byte{3}, []byte{0, 0}, []byte{1, 1}, []byte{2, 2})
}

// Room that becomes free behind Take or Drain is as much as was taken, round for round.
func TestFilledAgain(t *testing.T) {
	for _, depth := range []int{1, 2, 3, 5, 64, 1023, 1024} {
		q := of(t, 1, depth)
		var next, first uint32
		fill := func(free int) {
			for range free {
				holds(t, q, 1, numbered(next, 5))
				next++
			}
			drops(t, q, 1, numbered(next, 5))
		}
		fill(depth)
		for _, out := range []int{1, depth, (depth + 1) / 2, depth - 1, 1} {
			for range out {
				takes(t, q, 1, numbered(first, 5))
				first++
			}
			fill(out)
		}
		for range 3 {
			var want [][]byte
			for ; first < next; first++ {
				want = append(want, numbered(first, 5))
			}
			drains(t, q, want...)
			takesNone(t, q)
			fill(depth)
		}
	}
}

// What comes, waits or goes of one class is nothing to another one's room and counts.
func TestClassesApart(t *testing.T) {
	q := of(t, 1, 2, 1)
	holds(t, q, 1, []byte{1})
	holds(t, q, 1, []byte{2})
	for range 5 {
		drops(t, q, 1, []byte{3})
	}
	holds(t, q, 0, []byte{4})
	holds(t, q, 2, []byte{5})
	for range 3 {
		drops(t, q, 2, []byte{6})
	}
	stands(t, q, []int{1, 2, 1}, []uint32{0, 5, 3})
	drains(t, q, []byte{4}, []byte{1}, []byte{2}, []byte{5})
	stands(t, q, []int{0, 0, 0}, []uint32{0, 5, 3})
}

func TestTwoQueues(t *testing.T) {
	p, q := of(t, 1, 2), of(t, 1, 2)
	holds(t, p, 0, []byte{1})
	stands(t, q, []int{0, 0}, []uint32{0, 0})
	holds(t, q, 0, []byte{2})
	drops(t, q, 0, []byte{3})
	stands(t, p, []int{1, 0}, []uint32{0, 0})
	holds(t, q, 1, []byte{4})
	takes(t, p, 0, []byte{1})
	takesNone(t, p)
	stands(t, q, []int{1, 1}, []uint32{1, 0})
	holds(t, p, 1, []byte{5})
	drains(t, q, []byte{2}, []byte{4})
	takes(t, p, 1, []byte{5})
}
