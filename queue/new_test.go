package queue_test

import (
	"math"
	"testing"

	"riddle/api"
	"riddle/queue"
)

// notMade holds that there is no queue of these depths.
func notMade(t *testing.T, depths ...int) {
	t.Helper()
	if q, e := queue.New(depths...); q != nil || e != api.ErrQueueDepth {
		t.Errorf("P21.1: New(%v) = %v, %d; want error %d", depths, q, e, api.ErrQueueDepth)
	}
}

func TestNewExamples(t *testing.T) {
	notMade(t)
	notMade(t, 0)
	notMade(t, 1, 1025)
	notMade(t, many(18, 1)...)
}

func TestNumberOfClasses(t *testing.T) {
	notMade(t, []int(nil)...)
	notMade(t, []int{}...)
	for n := range 40 {
		if n >= 1 && n <= 17 {
			of(t, many(n, 1)...)
			of(t, many(n, 1024)...)
		} else {
			notMade(t, many(n, 1)...)
			notMade(t, many(n, 0)...)
		}
	}
	for _, n := range []int{256, 257, 65536, 65537} {
		notMade(t, many(n, 1)...)
	}
}

// Each depth of a row may be wrong, and all others may be right.
func TestDepthsAtTheirBounds(t *testing.T) {
	wrong := []int{0, -1, -2, -1024, 1025, 1026, 2048, 65536, 65537, math.MinInt, math.MinInt + 1, math.MaxInt, math.MaxInt - 1}
	right := []int{1, 2, 3, 16, 512, 1023, 1024}
	for _, n := range []int{1, 2, 3, 16, 17} {
		for at := range n {
			for _, depth := range wrong {
				row := many(n, 5)
				row[at] = depth
				notMade(t, row...)
			}
			for _, depth := range right {
				row := many(n, 5)
				row[at] = depth
				of(t, row...)
			}
		}
	}
	notMade(t, 0, 1025)
	notMade(t, -1, -1)
}

// Each class has the depth that stands at its place.
func TestEachItsDepth(t *testing.T) {
	for _, depths := range [][]int{{1}, {1024}, {1023}, {1, 1024}, {1024, 1}, {3, 1, 2}, {17, 16, 15, 14, 13, 12, 11, 10, 9, 8, 7, 6, 5, 4, 3, 2, 1}} {
		q := of(t, depths...)
		for class, depth := range depths {
			for n := range depth {
				holds(t, q, class, numbered(uint32(n), 0))
			}
			drops(t, q, class, nil)
			drops(t, q, class, []byte{1})
		}
		stands(t, q, depths, q.Dropped())
	}
}
