package queue_test

import (
	"bytes"
	"slices"
	"testing"

	"riddle/api"
	"riddle/queue"
	"riddle/word"
)

// of tells a queue of these depths, which is empty.
func of(t testing.TB, depths ...int) *queue.Queue {
	t.Helper()
	q, e := queue.New(depths...)
	if e != api.OK || q == nil {
		t.Fatalf("P21.1: New(%v) = %v, %d", depths, q, e)
	}
	stands(t, q, make([]int, len(depths)), make([]uint32, len(depths)))
	return q
}

// many is a list of n depths.
func many(n int, depth int) []int {
	return slices.Repeat([]int{depth}, n)
}

// numbered is a frame of at least 4 bytes that says its number.
func numbered(n uint32, size int) []byte {
	b, _ := word.Put(bytes.Repeat([]byte{byte(n)}, max(size, 4)), 0, 4, n)
	return b
}

// numberOf tells which number a frame says.
func numberOf(t testing.TB, b []byte) uint32 {
	t.Helper()
	n, ok := word.Get(b, 0, 4)
	if !ok || !bytes.Equal(b, numbered(n, len(b))) {
		t.Fatalf("P21.5: %.40x is no frame that was put", b)
	}
	return n
}

// stands holds how many frames each class holds, and how many were dropped of each.
func stands(t testing.TB, q *queue.Queue, lens []int, dropped []uint32) {
	t.Helper()
	if n, d := q.Lens(), q.Dropped(); !slices.Equal(n, lens) || !slices.Equal(d, dropped) {
		t.Fatalf("P21.4: Lens() = %v, Dropped() = %v; want %v, %v", n, d, lens, dropped)
	}
}

// holds holds that a frame is taken in.
func holds(t testing.TB, q *queue.Queue, class int, b []byte) {
	t.Helper()
	lens, dropped := q.Lens(), q.Dropped()
	if ok, e := q.Put(class, b); !ok || e != api.OK {
		t.Fatalf("P21.2: Put(%d, %.40x) = %v, %d; want true", class, b, ok, e)
	}
	lens[class]++
	stands(t, q, lens, dropped)
}

// drops holds that a frame is dropped, and counted.
func drops(t testing.TB, q *queue.Queue, class int, b []byte) {
	t.Helper()
	lens, dropped := q.Lens(), q.Dropped()
	if ok, e := q.Put(class, b); ok || e != api.OK {
		t.Fatalf("P21.2: Put(%d, %.40x) = %v, %d; want false", class, b, ok, e)
	}
	dropped[class]++
	stands(t, q, lens, dropped)
}

// refuses holds that a frame is refused, and changes nothing.
func refuses(t testing.TB, q *queue.Queue, class int, b []byte, want api.Errno) {
	t.Helper()
	lens, dropped := q.Lens(), q.Dropped()
	if ok, e := q.Put(class, b); ok || e != want {
		t.Fatalf("P21.2: Put(%d, %.40x) of %d bytes = %v, %d; want error %d", class, b, len(b), ok, e, want)
	}
	stands(t, q, lens, dropped)
}

// takes holds which frame comes out.
func takes(t testing.TB, q *queue.Queue, class int, want []byte) {
	t.Helper()
	lens, dropped := q.Lens(), q.Dropped()
	if n, b, ok := q.Take(); n != class || !bytes.Equal(b, want) || !ok {
		t.Fatalf("P21.3: Take() = %d, %d bytes, %.40x, %v; want %d, %d bytes, %.40x", n, len(b), b, ok, class, len(want), want)
	}
	lens[class]--
	stands(t, q, lens, dropped)
}

// takesNone holds that no frame comes out.
func takesNone(t testing.TB, q *queue.Queue) {
	t.Helper()
	lens, dropped := q.Lens(), q.Dropped()
	if n, b, ok := q.Take(); n != 0 || len(b) != 0 || ok {
		t.Fatalf("P21.3: Take() = %d, %.40x, %v; want none", n, b, ok)
	}
	stands(t, q, lens, dropped)
}

// drains holds which frames come out at once.
func drains(t testing.TB, q *queue.Queue, want ...[]byte) {
	t.Helper()
	lens, dropped := q.Lens(), q.Dropped()
	if all := q.Drain(); !slices.EqualFunc(all, want, bytes.Equal) {
		t.Fatalf("P21.3: Drain() = %.40x; want %.40x", all, want)
	}
	stands(t, q, make([]int, len(lens)), dropped)
}
