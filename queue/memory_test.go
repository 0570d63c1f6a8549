package queue_test

import (
	"bytes"
	"fmt"
	"math/rand"
	"slices"
	"sync"
	"testing"

	"riddle/api"
	"riddle/queue"
)

// story tells all answers of a row of calls that a seed says.
func story(seed int64) []string {
	by := rand.New(rand.NewSource(seed))
	depths := chosen(by)
	if by.Intn(5) == 0 {
		depths[by.Intn(len(depths))] = 1024 + by.Intn(2)
	}
	q, e := queue.New(depths...)
	told := []string{fmt.Sprint(depths, e)}
	if e != api.OK {
		return told
	}
	for range 150 {
		switch by.Intn(7) {
		case 0, 1, 2:
			ok, e := q.Put(by.Intn(len(depths)+2)-1, framed(by))
			told = append(told, fmt.Sprint(ok, e))
		case 3, 4:
			class, b, ok := q.Take()
			told = append(told, fmt.Sprintf("%d %.20x %v", class, b, ok))
		case 5:
			told = append(told, fmt.Sprint(q.Lens(), q.Dropped()))
		default:
			if by.Intn(10) == 0 {
				told = append(told, fmt.Sprintf("%.20x", q.Drain()))
			}
		}
	}
	return told
}

// R4: nothing hangs on what other queues were asked for ahead, nor on what they are asked for beside it.
func TestSameEachTime(t *testing.T) {
	var want [][]string
	for seed := range int64(100) {
		want = append(want, story(seed))
	}
	for n := range want {
		if seed := n * 7 % len(want); !slices.Equal(story(int64(seed)), want[seed]) {
			t.Errorf("R4: story %d is another one later", seed)
		}
	}
	var side sync.WaitGroup
	for worker := range 8 {
		side.Go(func() {
			for n := range want {
				if seed := (n + 13*worker) % len(want); !slices.Equal(story(int64(seed)), want[seed]) {
					t.Errorf("R4: story %d is another one side by side", seed)
				}
			}
		})
	}
	side.Wait()
}

// spoil writes over a list and the room behind it, and appends to it.
func spoil[T any](l []T, with T) {
	_ = append(l, with)
	room := l[:cap(l)]
	for at := range room {
		room[at] = with
	}
}

// roomy is a list with room behind it, in which something stands.
func roomy(b []byte) []byte {
	return append(slices.Clip(slices.Clone(b)), 0xe1, 0xe2, 0xe3, 0xe4)[:len(b)]
}

// clean holds that nothing stands in the room behind a list that was handed out.
func clean(t *testing.T, b []byte) {
	t.Helper()
	for _, c := range b[len(b):cap(b)] {
		if c != 0 {
			t.Fatalf("R3: something stands behind %.20x: %.20x", b, b[len(b):cap(b)])
		}
	}
}

func sizes() []int {
	return []int{0, 1, 3, 4, 8, 33, 1000, 65535}
}

func TestDepthsStay(t *testing.T) {
	all := []int{1, 2, 1, 1024, 7}
	depths := all[:3]
	q := of(t, depths...)
	if !slices.Equal(all, []int{1, 2, 1, 1024, 7}) {
		t.Errorf("R3: what was handed in was changed: %v", all)
	}
	spoil(depths, 1024)
	stands(t, q, make([]int, 3), make([]uint32, 3))
	for class, depth := range []int{1, 2, 1} {
		for range depth {
			holds(t, q, class, []byte{1})
		}
		drops(t, q, class, []byte{1})
	}
}

// What was handed in stays, be it taken in, dropped or refused; the room behind it too.
func TestFramesStay(t *testing.T) {
	q := of(t, 2)
	for _, size := range append(sizes(), 65536) {
		b := roomy(bytes.Repeat([]byte{0x77}, size))
		was := slices.Clone(b[:cap(b)])
		for range 3 {
			q.Put(0, b)
		}
		q.Put(1, b)
		q.Put(-1, b)
		_, one, _ := q.Take()
		spoil(one, 0x99)
		for _, other := range q.Drain() {
			spoil(other, 0x99)
		}
		if !bytes.Equal(b[:cap(b)], was) {
			t.Errorf("R3: %d bytes that were handed in were changed", size)
		}
	}
}

// What was handed in is not kept: it may be written over then.
func TestFramesAreCopied(t *testing.T) {
	for _, size := range sizes() {
		want := bytes.Repeat([]byte{0x77}, size)
		q := of(t, 3)
		for range 3 {
			b := roomy(want)
			holds(t, q, 0, b)
			spoil(b, 0x99)
		}
		_, b, _ := q.Take()
		clean(t, b)
		if !bytes.Equal(b, want) {
			t.Errorf("R3: Take tells %d bytes, %.20x", size, b)
		}
		for _, b := range q.Drain() {
			clean(t, b)
			if !bytes.Equal(b, want) {
				t.Errorf("R3: Drain tells %d bytes, %.20x", size, b)
			}
		}
	}
}

// One memory that is handed in many times is as many frames, each in memory of its own.
func TestOneMemoryManyTimes(t *testing.T) {
	for _, size := range sizes() {
		q := of(t, 4, 4)
		b := make([]byte, size)
		for n := range byte(8) {
			for at := range b {
				b[at] = n
			}
			holds(t, q, int(n%2), b)
		}
		for _, n := range []byte{0, 2, 4} {
			_, out, ok := q.Take()
			if !ok || !bytes.Equal(out, bytes.Repeat([]byte{n}, size)) {
				t.Fatalf("R3: %.20x comes out; want %d", out, n)
			}
			spoil(out, 0x99)
		}
		left := q.Drain()
		for at, n := range []byte{6, 1, 3, 5, 7} {
			if !bytes.Equal(left[at], bytes.Repeat([]byte{n}, size)) {
				t.Fatalf("R3: %.20x comes out; want %d", left[at], n)
			}
			spoil(left[at], 0x99)
		}
	}
}

// What was taken is its owner's: what is put then does not change it, and it may be put again.
func TestTakenIsItsOwners(t *testing.T) {
	for _, size := range sizes() {
		q := of(t, 1)
		want, other := bytes.Repeat([]byte{0x77}, size), bytes.Repeat([]byte{0x11}, size)
		holds(t, q, 0, want)
		_, first, _ := q.Take()
		holds(t, q, 0, other)
		if !bytes.Equal(first, want) {
			t.Fatalf("R3: what was taken changed to %.20x", first)
		}
		takes(t, q, 0, other)
		holds(t, q, 0, first)
		spoil(first, 0x99)
		takes(t, q, 0, want)
	}
}

// What Drain tells is its owner's, the list of the frames too: the queue goes on without it.
func TestDrainedIsItsOwners(t *testing.T) {
	q := of(t, 3, 2)
	fill := func(first byte) {
		for n := range byte(5) {
			holds(t, q, int(n/3), []byte{first + n})
		}
	}
	fill(10)
	l := q.Drain()
	fill(20)
	for at, b := range l {
		if !bytes.Equal(b, []byte{10 + byte(at)}) {
			t.Errorf("R3: what was drained changed to %x", b)
		}
	}
	for _, b := range l[len(l):cap(l)] {
		if b != nil {
			t.Errorf("R3: something stands behind what was drained: %x", b)
		}
	}
	spoil(l, []byte{0x99})
	stands(t, q, []int{3, 2}, []uint32{0, 0})
	takes(t, q, 0, []byte{20})
	drains(t, q, []byte{21}, []byte{22}, []byte{23}, []byte{24})
}

// What Drain tells of one class alone is no list that the queue goes on with.
func TestDrainedOfOneClass(t *testing.T) {
	for _, many := range []int{1, 2, 3, 4, 7, 8, 9} {
		q := of(t, 16)
		for n := range many {
			holds(t, q, 0, []byte{byte(n)})
		}
		l := q.Drain()
		for n := range many + 2 {
			holds(t, q, 0, []byte{100 + byte(n)})
		}
		for n, b := range l {
			if !bytes.Equal(b, []byte{byte(n)}) {
				t.Errorf("R3: what was drained changed to %x", b)
			}
		}
		spoil(l, []byte{0x99})
		for n := range many + 2 {
			takes(t, q, 0, []byte{100 + byte(n)})
		}
		takesNone(t, q)
	}
}

// What Lens and Dropped tell is new each time.
func TestCountsAreNew(t *testing.T) {
	q := of(t, 1, 2)
	for range 3 {
		q.Put(0, []byte{1})
	}
	q.Put(1, []byte{2})
	lens, dropped := q.Lens(), q.Dropped()
	other, more := q.Lens(), q.Dropped()
	spoil(lens, 99)
	spoil(dropped, 99)
	if !slices.Equal(other, []int{1, 1}) || !slices.Equal(more, []uint32{2, 0}) {
		t.Errorf("R3: two answers share memory: %v, %v", other, more)
	}
	stands(t, q, []int{1, 1}, []uint32{2, 0})
	lens, dropped = q.Lens(), q.Dropped()
	takes(t, q, 0, []byte{1})
	holds(t, q, 1, []byte{3})
	drops(t, q, 1, []byte{4})
	if !slices.Equal(lens, []int{1, 1}) || !slices.Equal(dropped, []uint32{2, 0}) {
		t.Errorf("R3: what was told changes later: %v, %v", lens, dropped)
	}
}
