package queue_test

import (
	"bytes"
	"math/rand"
	"slices"
	"testing"

	"riddle/api"
	"riddle/queue"
)

// waiting is a frame that waits in a class.
type waiting struct {
	class int
	frame []byte
}

// model is a queue by other means: one row of all that waits, in the order in which it came.
type model struct {
	depths  []int
	row     []waiting
	dropped []uint32
}

func (m *model) lens() []int {
	out := make([]int, len(m.depths))
	for _, w := range m.row {
		out[w.class]++
	}
	return out
}

func (m *model) put(class int, b []byte) (bool, api.Errno) {
	switch {
	case class < 0 || class > len(m.depths)-1:
		return false, api.ErrQueueClass
	case len(b) > 65535:
		return false, api.ErrQueueLong
	case m.lens()[class] == m.depths[class]:
		m.dropped[class]++
		return false, api.OK
	}
	m.row = append(m.row, waiting{class, slices.Clone(b)})
	return true, api.OK
}

func (m *model) take() (int, []byte, bool) {
	best := -1
	for at, w := range m.row {
		if best < 0 || w.class < m.row[best].class {
			best = at
		}
	}
	if best < 0 {
		return 0, nil, false
	}
	w := m.row[best]
	m.row = slices.Delete(m.row, best, best+1)
	return w.class, w.frame, true
}

func (m *model) drain() [][]byte {
	var out [][]byte
	for _, b, ok := m.take(); ok; _, b, ok = m.take() {
		out = append(out, b)
	}
	return out
}

// chosen tells depths by chance, mostly small ones.
func chosen(by *rand.Rand) []int {
	depths := make([]int, 1+by.Intn(17))
	for n := range depths {
		depths[n] = 1 + by.Intn(1+by.Intn(30))
	}
	return depths
}

// framed tells a frame by chance: mostly a short one, seldom one at the greatest size, or past it.
func framed(by *rand.Rand) []byte {
	size := by.Intn(6)
	if by.Intn(200) == 0 {
		size = 65534 + by.Intn(3)
	}
	b := make([]byte, size)
	by.Read(b[:min(size, 9)])
	return b
}

// step does one thing to both, and holds the answers against each other.
func step(t *testing.T, by *rand.Rand, q *queue.Queue, m *model, fills bool) {
	t.Helper()
	puts := 2
	if fills {
		puts = 6
	}
	switch what := by.Intn(puts + 3); {
	case what < puts:
		class, b := by.Intn(len(m.depths)+2)-1, framed(by)
		ok, e := q.Put(class, b)
		if wantOK, want := m.put(class, b); ok != wantOK || e != want {
			t.Fatalf("P21.2: of %v: Put(%d, %d bytes) = %v, %d; want %v, %d", m.depths, class, len(b), ok, e, wantOK, want)
		}
	case by.Intn(40) == 0:
		if all, want := q.Drain(), m.drain(); !slices.EqualFunc(all, want, bytes.Equal) {
			t.Fatalf("P21.3: of %v: Drain() = %.20x; want %.20x", m.depths, all, want)
		}
	default:
		class, b, ok := q.Take()
		if wantClass, want, wantOK := m.take(); class != wantClass || !bytes.Equal(b, want) || ok != wantOK {
			t.Fatalf("P21.3: of %v: Take() = %d, %.20x, %v; want %d, %.20x, %v", m.depths, class, b, ok, wantClass, want, wantOK)
		}
	}
	stands(t, q, m.lens(), m.dropped)
}

func TestAsTheModel(t *testing.T) {
	by := rand.New(rand.NewSource(21))
	for range 300 {
		depths := chosen(by)
		q, m := of(t, depths...), &model{depths: depths, dropped: make([]uint32, len(depths))}
		for n := range 600 {
			step(t, by, q, m, n/100%2 == 0)
		}
		if all, want := q.Drain(), m.drain(); !slices.EqualFunc(all, want, bytes.Equal) {
			t.Fatalf("P21.3: of %v: Drain() = %.20x; want %.20x", depths, all, want)
		}
	}
}

// record follows frames that say their numbers: which class each was put into, which have come out, and the last one of each class.
type record struct {
	t      *testing.T
	class  map[uint32]int
	out    map[uint32]bool
	last   []int64
	lens   []int
	depths []int
}

func (r *record) in(n uint32, class int) {
	r.class[n] = class
	r.lens[class]++
	if r.lens[class] > r.depths[class] {
		r.t.Fatalf("P21.5: class %d holds %d frames; its depth is %d", class, r.lens[class], r.depths[class])
	}
}

// goes holds what T7 says of a frame that comes out.
func (r *record) goes(b []byte) int {
	n := numberOf(r.t, b)
	class, was := r.class[n]
	switch {
	case !was || r.out[n]:
		r.t.Fatalf("P21.5: frame %d comes out; it was put: %v; it came out before: %v", n, was, r.out[n])
	case int64(n) <= r.last[class]:
		r.t.Fatalf("P21.5: frame %d of class %d comes out behind %d", n, class, r.last[class])
	case slices.ContainsFunc(r.lens[:class], func(n int) bool { return n != 0 }):
		r.t.Fatalf("P21.5: frame %d of class %d comes out while %v wait", n, class, r.lens)
	}
	r.out[n], r.last[class] = true, int64(n)
	r.lens[class]--
	return class
}

// T7: many frames, each with its number, into several classes, and out of them in between.
func TestStrictlyByClassInOrderOnce(t *testing.T) {
	by := rand.New(rand.NewSource(22))
	for range 60 {
		depths := chosen(by)
		q := of(t, depths...)
		r := &record{t: t, class: map[uint32]int{}, out: map[uint32]bool{}, last: many64(len(depths), -1), lens: make([]int, len(depths)), depths: depths}
		var dropped uint32
		const frames = 3000
		for n := range uint32(frames) {
			class := by.Intn(len(depths))
			if ok, e := q.Put(class, numbered(n, by.Intn(9))); e != api.OK {
				t.Fatalf("P21.2: Put = %d", e)
			} else if ok {
				r.in(n, class)
			} else if dropped++; r.lens[class] != depths[class] {
				t.Fatalf("P21.5: frame %d is dropped; class %d of depth %d holds %d", n, class, depths[class], r.lens[class])
			}
			for by.Intn(2) == 0 {
				if class, b, ok := q.Take(); ok && class != r.goes(b) {
					t.Fatalf("P21.3: a frame comes out as one of class %d", class)
				}
			}
			if got := q.Lens(); !slices.Equal(got, r.lens) {
				t.Fatalf("P21.5: Lens() = %v; want %v", got, r.lens)
			}
			if by.Intn(300) == 0 {
				for _, b := range q.Drain() {
					r.goes(b)
				}
			}
		}
		for _, b := range q.Drain() {
			r.goes(b)
		}
		if len(r.out) != len(r.class) || len(r.out)+int(dropped) != frames {
			t.Fatalf("P21.5: %d frames came out, %d were put with true, %d dropped, of %d", len(r.out), len(r.class), dropped, frames)
		}
	}
}

func many64(n int, v int64) []int64 {
	return slices.Repeat([]int64{v}, n)
}

// As many frames as may wait at all, and a million that pass through a class that is nearly full.
func TestManyFrames(t *testing.T) {
	q := of(t, many(17, 1024)...)
	for n := range uint32(17 * 1024) {
		if ok, e := q.Put(int(n%17), numbered(n, 4)); !ok || e != api.OK {
			t.Fatalf("P21.2: frame %d: %v, %d", n, ok, e)
		}
	}
	stands(t, q, many(17, 1024), make([]uint32, 17))
	all := q.Drain()
	if len(all) != 17*1024 {
		t.Fatalf("P21.3: Drain tells %d frames", len(all))
	}
	for at, b := range all {
		if n := numberOf(t, b); n != uint32(at%1024*17+at/1024) {
			t.Fatalf("P21.3: frame %d comes out at place %d", n, at)
		}
	}
	for n := range uint32(1_000_000) {
		q.Put(16, numbered(n, 4))
		if n >= 1023 {
			if class, b, ok := q.Take(); class != 16 || !ok || numberOf(t, b) != n-1023 {
				t.Fatalf("P21.3: %d, %x, %v behind frame %d", class, b, ok, n)
			}
		}
	}
	if lens := q.Lens(); lens[16] != 1023 {
		t.Errorf("P21.4: %v", lens)
	}
}

// A class that is full of the greatest frames.
func TestGreatFrames(t *testing.T) {
	q := of(t, 1024)
	b := make([]byte, api.MaxFrame)
	for n := range 1024 {
		b[0], b[1], b[api.MaxFrame-1] = byte(n>>8), byte(n), byte(n)
		if ok, e := q.Put(0, b); !ok || e != api.OK {
			t.Fatalf("P21.2: frame %d: %v, %d", n, ok, e)
		}
	}
	drops(t, q, 0, b)
	for n, b := range q.Drain() {
		if len(b) != api.MaxFrame || b[0] != byte(n>>8) || b[1] != byte(n) || b[api.MaxFrame-1] != byte(n) {
			t.Fatalf("P21.3: frame %d comes out as %d bytes, %.20x", n, len(b), b)
		}
	}
}
