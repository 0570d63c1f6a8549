package line_test

import (
	"math"
	"strconv"
	"testing"

	"riddle/api"
)

// distances tells how many instructions may lie between a test and a goal: few, about as many as its byte can say, and many more.
func distances() []int {
	return []int{0, 1, 2, 127, 128, 253, 254, 255, 256, 257, 258, 509, 510, 511, 512, 513, 1000, 2000}
}

// apart tells a test behind which the goals lie so far, if they are two, and what lies between can not be come to.
func apart(last api.Insn, yes, no int) []api.Block {
	near, far := min(yes, no), max(yes, no)
	out := list(test(last, 0, 0, k(api.LdAbsB, 0)))
	if near > 0 {
		out = append(out, ret(90, many(near-1)...))
	}
	out[0].Yes, out[0].No = len(out), len(out)
	if near < far {
		out = append(out, ret(91, many(far-near-1)...))
	}
	out = append(out, retA(k(api.AddK, 7)))
	if yes < no {
		out[0].No = len(out) - 1
	}
	if no < yes {
		out[0].Yes = len(out) - 1
	}
	return out
}

// ways tells how many Ja a test needs at least, whose goals lie so far.
func ways(yes, no int) int {
	switch {
	case yes <= math.MaxUint8 && no <= math.MaxUint8:
		return 0
	case yes == no || yes < math.MaxUint8 || no < math.MaxUint8:
		return 1
	}
	return 2
}

// TestHowFarATestGoes has all pairs of distances, one goal or two; no Ja is laid that is not needed.
func TestHowFarATestGoes(t *testing.T) {
	for _, yes := range distances() {
		for _, no := range distances() {
			g := apart(k(api.JeqK, 5), yes, no)
			what := strconv.Itoa(yes) + " to yes, " + strconv.Itoa(no) + " to no"
			p := laid(t, what, g, few()...)
			if want := 2 + ways(yes, no) + max(yes, no) + 2; len(p) != want {
				t.Errorf("%s: %d instructions; want %d", what, len(p), want)
			}
		}
	}
}

// TestWhereARunGoes tells the two goals apart, and what lies between from both.
func TestWhereARunGoes(t *testing.T) {
	for _, n := range distances() {
		body := many(n)
		for _, g := range [][]api.Block{
			list(test(k(api.JeqK, 5), 1, 2, k(api.LdAbsB, 0)), ret(1, body...), ret(2)),
			list(test(k(api.JeqK, 5), 2, 1, k(api.LdAbsB, 0)), ret(2, body...), ret(1)),
			list(test(k(api.JeqK, 5), 2, 3, k(api.LdAbsB, 0)), ret(9, body...), ret(1), ret(2)),
			list(test(k(api.JeqK, 5), 3, 2, k(api.LdAbsB, 0)), ret(9, body...), ret(2), ret(1)),
			list(test(k(api.JeqK, 5), 3, 2, k(api.LdAbsB, 0)), ret(9, body...), ret(2, body[:n/2]...), ret(1)),
		} {
			p := laid(t, "a test", g, few()...)
			for packet, want := range map[byte]uint32{5: 1, 6: 2, 4: 2} {
				if v := run(t, p, []byte{packet}); v.Value != want {
					t.Errorf("P18.2: %d between: %+v; want %d", n, v, want)
				}
			}
			if v := run(t, p, nil); v != (api.Verdict{Fault: api.FaultLoad, Steps: 1}) {
				t.Errorf("P18.2: %d between: %+v; want a fault", n, v)
			}
		}
	}
}

// TestPrograms has what is laid at the edges, instruction by instruction.
func TestPrograms(t *testing.T) {
	next := func(n int) string { return repeat("add #1\n", n) }
	jeq := k(api.JeqK, 5)
	becomes(t, "both near", list(test(jeq, 2, 1), ret(0, many(254)...), ret(1)), "jeq #5 255 0\n"+next(254)+"ret #0\nret #1")
	becomes(t, "yes far", list(test(jeq, 2, 1), ret(0, many(255)...), ret(1)), "jeq #5 0 1\nja 256\n"+next(255)+"ret #0\nret #1")
	becomes(t, "no far", list(test(jeq, 1, 2), ret(0, many(255)...), ret(1)), "jeq #5 1 0\nja 256\n"+next(255)+"ret #0\nret #1")
	becomes(t, "no far, yes not quite", list(test(jeq, 2, 3), ret(0, many(253)...), ret(1, many(1)...), ret(2)), "jeq #5 255 0\nja 256\n"+next(253)+"ret #0\nadd #1\nret #1\nret #2")
	becomes(t, "yes far, no not quite", list(test(jeq, 3, 2), ret(0, many(253)...), ret(1, many(1)...), ret(2)), "jeq #5 0 255\nja 256\n"+next(253)+"ret #0\nadd #1\nret #1\nret #2")
	becomes(t, "the one makes the other one far", list(test(jeq, 2, 3), ret(0, many(254)...), ret(1), ret(2)), "jeq #5 0 1\nja 256\nja 256\n"+next(254)+"ret #0\nret #1\nret #2")
	becomes(t, "both far", list(test(jeq, 3, 2), ret(0, many(300)...), ret(1), ret(2)), "jeq #5 0 1\nja 303\nja 301\n"+next(300)+"ret #0\nret #1\nret #2")
	becomes(t, "one goal, near", list(test(jeq, 2, 2), ret(0, many(254)...), ret(1)), "jeq #5 255 255\n"+next(254)+"ret #0\nret #1")
	becomes(t, "one goal, far", list(test(jeq, 2, 2), ret(0, many(255)...), ret(1)), "jeq #5 0 0\nja 256\n"+next(255)+"ret #0\nret #1")
	becomes(t, "one goal, next", list(test(jeq, 1, 1), ret(1)), "jeq #5 0 0\nret #1")
	becomes(t, "a go to the next block", list(goes(1, many(2)...), ret(1)), next(2)+"ret #1")
	becomes(t, "a go past a block", list(goes(2), ret(0), ret(1)), "ja 1\nret #0\nret #1")
	becomes(t, "a go far", list(goes(2), ret(0, many(300)...), ret(1)), "ja 301\n"+next(300)+"ret #0\nret #1")
	becomes(t, "a go past blocks of which nothing is laid", list(goes(3), goes(2), goes(3), ret(1)), "ret #1")
}

// TestEachQuestion has each code that a test may have, with goals near and far.
func TestEachQuestion(t *testing.T) {
	for _, code := range []uint16{api.JeqK, api.JgtK, api.JgeK, api.JsetK, api.JeqX, api.JgtX, api.JgeX, api.JsetX} {
		for _, v := range []uint32{0, 1, 5, 6, 255, 1 << 31, math.MaxUint32} {
			if code&8 != 0 && v != 0 {
				continue
			}
			for _, yes := range []int{0, 3, 255, 256, 700} {
				for _, no := range []int{0, 3, 255, 256, 700} {
					g := apart(k(code, v), yes, no)
					g[0].Code = []api.Insn{k(api.LdAbsB, 1), k(api.Tax, 0), k(api.LdAbsB, 0)}
					p := laid(t, "a question", g, append(few(), []byte{5, 5}, []byte{5, 4}, []byte{0, 0})...)
					if p[3].Code != code || p[3].K != v {
						t.Errorf("%#x: %+v", code, p[3])
					}
				}
			}
		}
	}
}

func TestGoes(t *testing.T) {
	for _, n := range distances() {
		for _, code := range [][]api.Insn{nil, many(1), many(300)} {
			p := laid(t, "a go", list(goes(2, code...), ret(0, many(n)...), retA()), few()...)
			if want := len(code) + 1 + n + 2; len(p) != want {
				t.Errorf("a go past %d: %d instructions; want %d", n, len(p), want)
			}
			p = laid(t, "a go to the next one", list(goes(1, code...), retA(many(n)...)), few()...)
			if want := len(code) + n + 1; len(p) != want {
				t.Errorf("a go to the next one, of %d: %d instructions; want %d", n, len(p), want)
			}
			laid(t, "goes that meet", list(test(k(api.JgtK, 5), 2, 1, k(api.LdAbsB, 0)), goes(3, many(n)...), goes(4, code...), goes(4, many(n/2)...), retA()), few()...)
		}
	}
	// The longest go that there may be.
	p := laid(t, "past all", list(goes(2), ret(0, many(api.MaxProgram-3)...), ret(1)), few()...)
	if len(p) != api.MaxProgram || p[0] != k(api.Ja, api.MaxProgram-2) {
		t.Errorf("past all: %d instructions, %+v", len(p), p[0])
	}
	p = laid(t, "past all, by a test", list(test(k(api.JeqX, 0), 2, 2), ret(0, many(api.MaxProgram-5)...), ret(1)), few()...)
	if v := run(t, p, nil); v.Value != 1 {
		t.Errorf("P18.2: past all, by a test: %+v", v)
	}
}

// TestUnreached has blocks that can not be come to: at each place, of each end, small and great.
func TestUnreached(t *testing.T) {
	for _, n := range []int{0, 1, 254, 255, 256, 1000} {
		for _, b := range list(ret(9, many(n)...), retA(many(n)...), goes(3, many(n)...), goes(4, many(n)...), test(k(api.JgtK, 0), 3, 4, many(n)...), test(k(api.JgtK, 0), 4, 4, many(n)...)) {
			laid(t, "behind a go", list(goes(3, k(api.LdAbsB, 0)), b, b, retA(), ret(5)), few()...)
			laid(t, "behind a test", list(test(k(api.JgtK, 5), 4, 3, k(api.LdAbsB, 0)), b, b, retA(), ret(5)), few()...)
			laid(t, "behind a return", list(ret(4, k(api.LdAbsB, 0)), b, b, retA(), ret(5)), few()...)
		}
		laid(t, "at the end", list(test(k(api.JgtK, 5), 2, 1, k(api.LdAbsB, 0)), ret(1), ret(2), retA(many(n)...)), few()...)
	}
}
