package clock_test

import (
	"math/rand"
	"slices"
	"strings"
	"sync"
	"testing"

	"riddle/api"
	"riddle/clock"
)

// model is a clock by other means: it keeps no counts, but all calls by their letters; a tick that hung up stands there as h.
type model struct {
	idle, most uint32
	past       string
}

func (m *model) goes() bool {
	return strings.LastIndexByte(m.past, 'S') > strings.LastIndexAny(m.past, "Ph")
}

// since tells how many ticks there have been since the last one of these calls.
func (m *model) since(calls string) uint32 {
	return uint32(strings.Count(m.past[strings.LastIndexAny(m.past, calls)+1:], "."))
}

// due tells what T6 says of the tick that was last.
func (m *model) due() string {
	switch {
	case !m.goes():
		return "-"
	case m.idle > 0 && m.since("ST") == m.idle:
		return "i"
	case m.most > 0 && m.since("S") == m.most:
		return "m"
	}
	return "-"
}

func (m *model) one(call byte) string {
	m.past += string(rune(call))
	if call != '.' {
		return ""
	}
	told := m.due()
	if told != "-" {
		m.past = m.past[:len(m.past)-1] + "h"
	}
	return told
}

func (m *model) now() (bool, uint32, uint32) {
	if !m.goes() {
		return false, 0, 0
	}
	return true, m.since("ST"), m.since("S")
}

// asTheModel holds a clock that is asked behind each call, and one that is asked in the end, to the model.
func asTheModel(t *testing.T, idle uint32, most uint32, calls string) {
	t.Helper()
	c, late, m := clock.New(idle, most), clock.New(idle, most), &model{idle: idle, most: most}
	for at := range len(calls) {
		want := m.one(calls[at])
		if got, other := one(c, calls[at]), one(late, calls[at]); got != want || other != want {
			t.Fatalf("P22.4: New(%d, %d), %s: the last one tells %s and %s; want %s", idle, most, calls[:at+1], got, other, want)
		}
		sameNow(t, c, m)
	}
	sameNow(t, late, m)
}

func sameNow(t *testing.T, c *clock.Clock, m *model) {
	t.Helper()
	goes, idle, all := c.Now()
	if wantGoes, wantIdle, wantAll := m.now(); goes != wantGoes || idle != wantIdle || all != wantAll {
		t.Fatalf("P22.3: New(%d, %d), %s: Now() = %v, %d, %d; want %v, %d, %d", m.idle, m.most, m.past, goes, idle, all, wantGoes, wantIdle, wantAll)
	}
}

// row is n calls by their letters, the number of the row in fours.
func row(number int, n int) string {
	b := make([]byte, n)
	for at := range b {
		b[at] = "SPT."[number&3]
		number >>= 2
	}
	return string(b)
}

// Every row of seven calls, at every two small limits, and at the greatest.
func TestEveryRowOfCalls(t *testing.T) {
	const long = 7
	some := []uint32{0, 1, 2, 3, 4, api.MaxCount}
	for number := range 1 << (2 * long) {
		calls := row(number, long)
		for _, idle := range some {
			for _, most := range some {
				asTheModel(t, idle, most, calls)
			}
		}
	}
}

// chosen tells calls by chance, mostly ticks, and some more touches than starts and stops.
func chosen(by *rand.Rand, n int) string {
	letters := "SPTT" + strings.Repeat(".", by.Intn(60)) + strings.Repeat("T", by.Intn(5))
	b := make([]byte, n)
	for at := range b {
		b[at] = letters[by.Intn(len(letters))]
	}
	return "S" + string(b)
}

func limit(by *rand.Rand) uint32 {
	if by.Intn(8) == 0 {
		return by.Uint32()
	}
	return uint32(by.Intn(1 + by.Intn(60)))
}

func TestLongRowsOfCalls(t *testing.T) {
	by := rand.New(rand.NewSource(22))
	hung := map[string]int{}
	for range 2000 {
		idle, most, calls := limit(by), limit(by), chosen(by, 400)
		asTheModel(t, idle, most, calls)
		for _, told := range play(clock.New(idle, most), calls) {
			hung[string(told)]++
		}
	}
	if hung["i"] < 500 || hung["m"] < 500 {
		t.Errorf("too few rows hang up: %v", hung)
	}
}

// Limits that are reached behind many ticks only, and counts that go on past them where there is no limit.
func TestManyTicks(t *testing.T) {
	great := []uint32{254, 255, 256, 257, 32767, 32768, 65535, 65536, 65537, 1_000_000, 1<<24 + 1}
	for _, n := range great {
		idle, most, both, touched, free := of(t, n, 0), of(t, 0, n), of(t, n, n), of(t, 2, n), of(t, 0, 0)
		all := []*clock.Clock{idle, most, both, touched, free}
		for _, c := range all {
			c.Start()
		}
		for range n - 1 {
			touched.Touch()
			for _, c := range all {
				if why := c.Tick(); why != api.HangNone {
					t.Fatalf("P22.4: limit %d: a tick ahead of it tells %d", n, why)
				}
			}
		}
		for _, c := range []*clock.Clock{idle, most, both, free} {
			goes(t, c, n-1, n-1)
		}
		goes(t, touched, 1, n-1)
		touched.Touch()
		for at, why := range []int{api.HangIdle, api.HangMost, api.HangIdle, api.HangMost} {
			tick(t, all[at], why)
			stands(t, all[at])
		}
		tick(t, free, api.HangNone)
		goes(t, free, n, n)
	}
}

// A limit past the ticks that a test can count is not reached, whatever its low bits are.
func TestGreatLimits(t *testing.T) {
	for _, n := range []uint32{1 << 24, 1<<24 + 1, 1 << 30, 1 << 31, 1<<31 + 1, 1<<31 + 2, 1<<32 - 65536, 1<<32 - 65535, api.MaxCount - 1, api.MaxCount} {
		for _, c := range []*clock.Clock{of(t, n, 0), of(t, 0, n), of(t, n, n)} {
			c.Start()
			for range 70_000 {
				if why := c.Tick(); why != api.HangNone {
					t.Fatalf("P22.4: limit %d: a tick tells %d", n, why)
				}
			}
			goes(t, c, 70_000, 70_000)
		}
	}
}

// Two clocks side by side know nothing of each other.
func TestTwoClocks(t *testing.T) {
	c, d := of(t, 2, 0), of(t, 2, 0)
	c.Start()
	stands(t, d)
	tick(t, c, api.HangNone)
	stands(t, d)
	tick(t, d, api.HangNone)
	goes(t, c, 1, 1)
	d.Start()
	goes(t, c, 1, 1)
	d.Touch()
	goes(t, c, 1, 1)
	tick(t, d, api.HangNone)
	tick(t, c, api.HangIdle)
	goes(t, d, 1, 1)
	c.Start()
	c.Stop()
	goes(t, d, 1, 1)
	tick(t, d, api.HangIdle)
	clock.New(1, 1).Start()
	stands(t, c)
	stands(t, d)
}

// Many clocks whose calls are mixed, each held to a model of its own.
func TestManyClocks(t *testing.T) {
	by := rand.New(rand.NewSource(23))
	var clocks []*clock.Clock
	var models []*model
	for range 50 {
		idle, most := limit(by), limit(by)
		clocks = append(clocks, of(t, idle, most))
		models = append(models, &model{idle: idle, most: most})
	}
	for range 20_000 {
		at, call := by.Intn(len(clocks)), "SPTT........................."[by.Intn(29)]
		if got, want := one(clocks[at], call), models[at].one(call); got != want {
			t.Fatalf("R4: clock %d of New(%d, %d) tells %s; want %s", at, models[at].idle, models[at].most, got, want)
		}
		other := by.Intn(len(clocks))
		sameNow(t, clocks[at], models[at])
		sameNow(t, clocks[other], models[other])
	}
}

// story tells all answers of a row of calls that a seed says.
func story(seed int64) []string {
	by := rand.New(rand.NewSource(seed))
	var told []string
	for range 5 {
		told = append(told, play(clock.New(limit(by), limit(by)), chosen(by, 200)))
	}
	return told
}

// R4: nothing hangs on what other clocks were asked for ahead, nor on what they are asked for beside it.
func TestSameEachTime(t *testing.T) {
	var want [][]string
	for seed := range int64(100) {
		want = append(want, story(seed))
	}
	for n := range want {
		if seed := n * 7 % len(want); !slices.Equal(story(int64(seed)), want[seed]) {
			t.Errorf("R4: story %d is another one later", seed)
		}
	}
	var side sync.WaitGroup
	for worker := range 8 {
		side.Go(func() {
			for n := range want {
				if seed := (n + 13*worker) % len(want); !slices.Equal(story(int64(seed)), want[seed]) {
					t.Errorf("R4: story %d is another one side by side", seed)
				}
			}
		})
	}
	side.Wait()
}
