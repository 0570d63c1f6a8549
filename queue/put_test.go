package queue_test

import (
	"bytes"
	"math"
	"testing"

	"riddle/api"
)

func TestExamples(t *testing.T) {
	q := of(t, 1, 2)
	holds(t, q, 1, []byte{0xaa})
	holds(t, q, 0, []byte{0xbb})
	drops(t, q, 0, []byte{0xcc})
	refuses(t, q, 2, []byte{0xdd}, api.ErrQueueClass)
	stands(t, q, []int{1, 1}, []uint32{1, 0})
	takes(t, q, 0, []byte{0xbb})
	takes(t, q, 1, []byte{0xaa})
	takesNone(t, q)
}

func TestClassesAtTheirBounds(t *testing.T) {
	for _, n := range []int{1, 2, 3, 16, 17} {
		q := of(t, many(n, 1)...)
		for _, class := range []int{-1, -2, -n, -256, -65536, n, n + 1, 2 * n, 17, 18, 256, 65536, math.MinInt, math.MinInt + 1, math.MaxInt, math.MaxInt - 1} {
			if class < 0 || class >= n {
				refuses(t, q, class, []byte{7}, api.ErrQueueClass)
				refuses(t, q, class, nil, api.ErrQueueClass)
			}
		}
		takesNone(t, q)
		for class := range n {
			holds(t, q, class, []byte{byte(class)})
		}
		// What is no class's number is none either where all classes are full.
		refuses(t, q, -1, []byte{7}, api.ErrQueueClass)
		refuses(t, q, n, []byte{7}, api.ErrQueueClass)
		for class := range n {
			takes(t, q, class, []byte{byte(class)})
		}
	}
}

func TestFramesAtTheirBounds(t *testing.T) {
	q := of(t, 3, 1)
	for _, size := range []int{65536, 65537, 1 << 17, 1<<17 + 1} {
		refuses(t, q, 0, make([]byte, size), api.ErrQueueLong)
		refuses(t, q, 1, make([]byte, size), api.ErrQueueLong)
	}
	takesNone(t, q)
	for _, size := range []int{0, 1, 2, 255, 256, 65534, 65535} {
		b := bytes.Repeat([]byte{0x5a}, size)
		holds(t, q, 0, b)
		holds(t, q, 1, b)
		drops(t, q, 1, b)
		takes(t, q, 0, b)
		takes(t, q, 1, b)
	}
}

// A frame that is too long is no frame that was dropped, also where there would be no room for it.
func TestTooLongForAFullClass(t *testing.T) {
	q := of(t, 1)
	holds(t, q, 0, []byte{1})
	refuses(t, q, 0, make([]byte, 65536), api.ErrQueueLong)
	drops(t, q, 0, make([]byte, 65535))
	takes(t, q, 0, []byte{1})
}

func TestBothErrors(t *testing.T) {
	q := of(t, 1, 1)
	for _, class := range []int{-1, 2, 3, math.MinInt, math.MaxInt} {
		refuses(t, q, class, make([]byte, 65536), api.ErrQueueClass)
	}
}

// A frame of no bytes is one; nil and empty are the same.
func TestFramesOfNoBytes(t *testing.T) {
	q := of(t, 2, 2)
	holds(t, q, 1, nil)
	holds(t, q, 1, []byte{})
	drops(t, q, 1, nil)
	holds(t, q, 0, []byte{})
	holds(t, q, 0, []byte{1})
	takes(t, q, 0, nil)
	takes(t, q, 0, []byte{1})
	takes(t, q, 1, nil)
	holds(t, q, 0, nil)
	drains(t, q, nil, nil)
	takesNone(t, q)
}
