package check_test

import (
	"math"
	"math/rand"
	"slices"
	"testing"

	"riddle/api"
	"riddle/check"
	"riddle/insn"
)

// What a code may be faulty in, beside being unknown.
const (
	inNothing = iota
	inScratch
	inDivisor
	inShift
	inGoal
	inGoals
	inReturn // nothing either: told apart because a run ends there
)

// sorts tells what chapters 2 and 4 say of each known code.
func sorts() map[uint16]int {
	return map[uint16]int{
		api.LdImm: inNothing, api.LdAbsW: inNothing, api.LdAbsH: inNothing, api.LdAbsB: inNothing,
		api.LdIndW: inNothing, api.LdIndH: inNothing, api.LdIndB: inNothing, api.LdMem: inScratch, api.LdLen: inNothing,
		api.LdxImm: inNothing, api.LdxMem: inScratch, api.LdxLen: inNothing, api.LdxMsh: inNothing,
		api.St: inScratch, api.Stx: inScratch,
		api.AddK: inNothing, api.AddX: inNothing, api.SubK: inNothing, api.SubX: inNothing,
		api.MulK: inNothing, api.MulX: inNothing, api.DivK: inDivisor, api.DivX: inNothing,
		api.OrK: inNothing, api.OrX: inNothing, api.AndK: inNothing, api.AndX: inNothing,
		api.LshK: inShift, api.LshX: inNothing, api.RshK: inShift, api.RshX: inNothing,
		api.Neg: inNothing, api.ModK: inDivisor, api.ModX: inNothing, api.XorK: inNothing, api.XorX: inNothing,
		api.Ja: inGoal, api.JeqK: inGoals, api.JeqX: inGoals, api.JgtK: inGoals, api.JgtX: inGoals,
		api.JgeK: inGoals, api.JgeX: inGoals, api.JsetK: inGoals, api.JsetX: inGoals,
		api.RetK: inReturn, api.RetA: inReturn, api.Tax: inNothing, api.Txa: inNothing,
	}
}

// codes tells the known codes of those sorts, in their order.
func codes(which ...int) []uint16 {
	var out []uint16
	for code, s := range sorts() {
		if slices.Contains(which, s) {
			out = append(out, code)
		}
	}
	slices.Sort(out)
	return out
}

// fault is a second reckoning of what point 2 asks of one instruction, by goals that are exact sums.
func fault(known map[uint16]int, at, n int, i api.Insn) api.Errno {
	outside := func(by uint32) bool { return int64(at)+1+int64(by) > int64(n)-1 }
	s, ok := known[i.Code]
	switch {
	case !ok:
		return api.ErrCheckCode
	case s == inScratch && i.K > 15:
		return api.ErrCheckMem
	case s == inDivisor && i.K < 1:
		return api.ErrCheckZero
	case s == inShift && i.K >= 32:
		return api.ErrCheckShift
	case s == inGoal && outside(i.K), s == inGoals && (outside(uint32(i.Jt)) || outside(uint32(i.Jf))):
		return api.ErrCheckJump
	}
	return api.OK
}

// verdict is a second reckoning of P4.1.
func verdict(known map[uint16]int, p []api.Insn) (int, api.Errno) {
	switch {
	case len(p) < 1:
		return 0, api.ErrCheckEmpty
	case len(p) >= 4097:
		return 4096, api.ErrCheckMany
	}
	for at, i := range p {
		if e := fault(known, at, len(p), i); e != api.OK {
			return at, e
		}
	}
	if last := p[len(p)-1].Code; last != api.RetK && last != api.RetA {
		return len(p) - 1, api.ErrCheckEnd
	}
	return 0, api.OK
}

// goals tells where an instruction can go on, as exact sums.
func goals(known map[uint16]int, at int, i api.Insn) []int64 {
	next := int64(at) + 1
	switch known[i.Code] {
	case inReturn:
		return nil
	case inGoal:
		return []int64{next + int64(i.K)}
	case inGoals:
		return []int64{next + int64(i.Jt), next + int64(i.Jf)}
	}
	return []int64{next}
}

// come is a second reckoning of P4.2: it follows the goals from the first instruction on, in whatever order.
func come(known map[uint16]int, p []api.Insn) []bool {
	out := make([]bool, len(p))
	work := []int64{0}
	for len(work) > 0 {
		at := work[len(work)-1]
		work = work[:len(work)-1]
		if !out[at] {
			out[at] = true
			work = append(work, goals(known, int(at), p[at])...)
		}
	}
	return out
}

func k(code uint16, v uint32) api.Insn {
	return api.Insn{Code: code, K: v}
}

func j(code uint16, jt, jf uint8) api.Insn {
	return api.Insn{Code: code, Jt: jt, Jf: jf}
}

func plain(code uint16) api.Insn {
	return api.Insn{Code: code}
}

// list tells a program, so that the tables below stay short.
func list(p ...api.Insn) []api.Insn {
	return p
}

// among tells a program of n instructions, i at that place, harmless ones ahead of it, returns behind it.
func among(n, at int, i api.Insn) []api.Insn {
	p := make([]api.Insn, n)
	for place := range p {
		p[place] = plain(api.Tax)
		if place > at {
			p[place] = k(api.RetK, uint32(place))
		}
	}
	p[at] = i
	return p
}

func wantCheck(t *testing.T, promise string, p []api.Insn, place int, e api.Errno) {
	t.Helper()
	if gotPlace, got := check.Check(p); gotPlace != place || got != e {
		t.Errorf("%s: Check(%v) = %d, %d; want %d, %d", promise, short(p), gotPlace, got, place, e)
	}
}

// short keeps a long program from filling the screen.
func short(p []api.Insn) []api.Insn {
	return p[:min(len(p), 12)]
}

// text writes what Reach tells, a byte an instruction.
func text(reached []bool) string {
	out := make([]byte, 0, len(reached))
	for _, r := range reached {
		if r {
			out = append(out, '1')
		} else {
			out = append(out, '.')
		}
	}
	return string(out)
}

func wantReach(t *testing.T, p []api.Insn, want string) {
	t.Helper()
	if got, e := check.Reach(p); e != api.OK || text(got) != want {
		t.Errorf("P4.2: Reach(%v) = %s, %d; want %s", short(p), text(got), e, want)
	}
}

func TestExamplesOfTheChapter(t *testing.T) {
	ret := plain(api.RetK)
	for _, x := range []struct {
		p     []api.Insn
		place int
		e     api.Errno
	}{
		{list(ret), 0, api.OK},
		{list(), 0, api.ErrCheckEmpty},
		{list(plain(api.Tax)), 0, api.ErrCheckEnd},
		{list(plain(8), ret), 0, api.ErrCheckCode},
		{list(k(api.Ja, 0), ret), 0, api.OK},
		{list(k(api.Ja, 1), ret), 0, api.ErrCheckJump},
		{list(j(api.JeqK, 0, 0), ret, ret), 0, api.OK},
		{list(j(api.JeqK, 0, 1), ret), 0, api.ErrCheckJump},
		{list(k(api.St, 15), ret), 0, api.OK},
		{list(k(api.St, 16), ret), 0, api.ErrCheckMem},
		{list(k(api.DivK, 0), ret), 0, api.ErrCheckZero},
		{list(k(api.LshK, 32), ret), 0, api.ErrCheckShift},
		{list(plain(api.LshX), ret), 0, api.OK},
	} {
		wantCheck(t, "P4.1", x.p, x.place, x.e)
	}
	wantReach(t, list(k(api.Ja, 1), plain(api.Tax), ret), "1.1")
	wantReach(t, list(ret, ret), "1.")
}

func TestNoInstruction(t *testing.T) {
	whole := among(3, 0, plain(api.Tax))
	for _, p := range [][]api.Insn{nil, {}, whole[:0], make([]api.Insn, 0, 9)} {
		wantCheck(t, "P4.1", p, 0, api.ErrCheckEmpty)
		if got, e := check.Reach(p); e != api.ErrCheckEmpty || len(got) != 0 {
			t.Errorf("P4.2: Reach of nothing = %v, %d", got, e)
		}
	}
}

func TestTooManyInstructions(t *testing.T) {
	const most = api.MaxProgram
	wantCheck(t, "P4.1", among(most-1, 0, plain(api.Tax)), 0, api.OK)
	wantCheck(t, "P4.1", among(most, 0, plain(api.Tax)), 0, api.OK)
	for _, n := range []int{most + 1, most + 2, 2 * most, 1 << 16, 1 << 20} {
		for _, first := range []uint16{api.Tax, 8, api.DivK, api.RetK} {
			wantCheck(t, "P4.1", among(n, 0, plain(first)), most, api.ErrCheckMany)
		}
		wantCheck(t, "P4.1", among(n, n-1, plain(api.Tax)), most, api.ErrCheckMany)
		wantCheck(t, "P4.1", among(n, most, plain(0xffff)), most, api.ErrCheckMany)
	}
	if got, e := check.Reach(among(most+1, 0, plain(api.Tax))); e != api.ErrCheckMany || len(got) != 0 {
		t.Errorf("P4.2: Reach beyond the limit = %d answers, %d", len(got), e)
	}
}

// edge is the greatest or least K that a code of a sort takes, and the nearest one that it does not.
type edge struct {
	sort      int
	good, bad uint32
	e         api.Errno
}

func edges() []edge {
	return []edge{
		{inScratch, 15, 16, api.ErrCheckMem},
		{inScratch, 0, math.MaxUint32, api.ErrCheckMem},
		{inScratch, 15, 1 << 31, api.ErrCheckMem},
		{inScratch, 1, 1 << 16, api.ErrCheckMem},
		{inDivisor, 1, 0, api.ErrCheckZero},
		{inDivisor, math.MaxUint32, 0, api.ErrCheckZero},
		{inDivisor, 1 << 31, 0, api.ErrCheckZero},
		{inDivisor, 1 << 16, 0, api.ErrCheckZero},
		{inShift, 31, 32, api.ErrCheckShift},
		{inShift, 0, math.MaxUint32, api.ErrCheckShift},
		{inShift, 31, 1 << 31, api.ErrCheckShift},
		{inShift, 1, 1 << 16, api.ErrCheckShift},
	}
}

func TestFaultsOfKAtEveryPlace(t *testing.T) {
	for _, x := range edges() {
		for _, code := range codes(x.sort) {
			for n := 1; n <= 6; n++ {
				for at := range n {
					wantCheck(t, "P4.1", among(n, at, k(code, x.bad)), at, x.e)
					if at == n-1 {
						wantCheck(t, "P4.1", among(n, at, k(code, x.good)), at, api.ErrCheckEnd)
					} else {
						wantCheck(t, "P4.1", among(n, at, k(code, x.good)), 0, api.OK)
					}
				}
			}
			most := api.MaxProgram
			wantCheck(t, "P4.1", among(most, most-2, k(code, x.bad)), most-2, x.e)
			wantCheck(t, "P4.1", among(most, most-1, k(code, x.bad)), most-1, x.e)
			wantCheck(t, "P4.1", among(most, most-2, k(code, x.good)), 0, api.OK)
		}
	}
}

func TestEveryCode(t *testing.T) {
	known := sorts()
	for c := range 1 << 16 {
		for _, i := range list(plain(uint16(c)), api.Insn{Code: uint16(c), Jt: 1, Jf: 1, K: 1}, api.Insn{Code: uint16(c), Jt: 2, Jf: 2, K: 2},
			api.Insn{Code: uint16(c), Jt: 255, Jf: 255, K: math.MaxUint32}) {
			for at := range 3 {
				p := among(3, at, i)
				place, e := verdict(known, p)
				wantCheck(t, "P4.1", p, place, e)
			}
		}
	}
	if len(known) != 49 {
		t.Errorf("the table has %d codes", len(known))
	}
}

func TestUnknownCodes(t *testing.T) {
	for _, code := range []uint16{0x08, 0x0d, 0x0e, 0x10, 0x17, 0x38, 0x82, 0x86, 0xb4, 0xff, 0x100, 0x106, 0x116, 0x205, 0x600, 0x1600, 0x8006, 0xff06, 0xffff} {
		for n := 1; n <= 4; n++ {
			for at := range n {
				wantCheck(t, "P4.1", among(n, at, plain(code)), at, api.ErrCheckCode)
				wantCheck(t, "P4.1", among(n, at, api.Insn{Code: code, Jt: 255, Jf: 255, K: math.MaxUint32}), at, api.ErrCheckCode)
			}
		}
	}
}

func TestJumpByK(t *testing.T) {
	for _, n := range []int{1, 2, 3, 5, 300, api.MaxProgram} {
		for _, at := range []int{0, 1, n / 2, n - 3, n - 2, n - 1} {
			if at < 0 || at >= n {
				continue
			}
			left := uint32(n - 1 - at)
			if left > 0 {
				wantCheck(t, "P4.1", among(n, at, k(api.Ja, 0)), 0, api.OK)
				wantCheck(t, "P4.1", among(n, at, k(api.Ja, left-1)), 0, api.OK)
			}
			wantCheck(t, "P4.1", among(n, at, k(api.Ja, left)), at, api.ErrCheckJump)
			wantCheck(t, "P4.1", among(n, at, k(api.Ja, left+1)), at, api.ErrCheckJump)
			for _, by := range []uint32{1 << 16, 1<<16 + left - 1, 1<<31 - 1, 1 << 31, 1<<31 + 1} {
				if by >= left {
					wantCheck(t, "P4.1", among(n, at, k(api.Ja, by)), at, api.ErrCheckJump)
				}
			}
			// Wrapped, these would go back, to the jump itself, or to what stands behind it.
			for back := range uint32(n%400) + 4 {
				wantCheck(t, "P4.1", among(n, at, k(api.Ja, math.MaxUint32-back)), at, api.ErrCheckJump)
			}
		}
	}
}

func TestJumpByTwoGoals(t *testing.T) {
	for _, code := range codes(inGoals) {
		for _, left := range []int{1, 2, 3, 7, 127, 128, 129, 254, 255} {
			for _, ahead := range []int{0, 1, 4} {
				n, good, bad := ahead+1+left, uint8(left-1), uint8(left)
				for _, x := range []struct {
					jt, jf uint8
					fine   bool
				}{
					{0, 0, true}, {good, 0, true}, {0, good, true}, {good, good, true},
					{bad, 0, false}, {0, bad, false}, {bad, good, false}, {good, bad, false}, {bad, bad, false},
					{255, 0, false}, {0, 255, false}, {255, 255, false},
				} {
					if x.fine {
						wantCheck(t, "P4.1", among(n, ahead, j(code, x.jt, x.jf)), 0, api.OK)
					} else {
						wantCheck(t, "P4.1", among(n, ahead, j(code, x.jt, x.jf)), ahead, api.ErrCheckJump)
					}
				}
			}
		}
		// As far as the fields can say, and what is left is more.
		for _, n := range []int{257, 258, 1000, api.MaxProgram} {
			wantCheck(t, "P4.1", among(n, 0, j(code, 255, 255)), 0, api.OK)
			wantCheck(t, "P4.1", among(n, n-257, j(code, 255, 255)), 0, api.OK)
			wantCheck(t, "P4.1", among(n, n-256, j(code, 255, 0)), n-256, api.ErrCheckJump)
			wantCheck(t, "P4.1", among(n, n-256, j(code, 0, 255)), n-256, api.ErrCheckJump)
		}
	}
}

func TestLastInstructionIsAJump(t *testing.T) {
	for _, code := range codes(inGoal, inGoals) {
		for n := 1; n <= 4; n++ {
			wantCheck(t, "P4.1", among(n, n-1, plain(code)), n-1, api.ErrCheckJump)
		}
		wantCheck(t, "P4.1", among(api.MaxProgram, api.MaxProgram-1, plain(code)), api.MaxProgram-1, api.ErrCheckJump)
	}
}

func TestLastInstruction(t *testing.T) {
	for _, n := range []int{1, 2, 3, 100, api.MaxProgram} {
		for _, code := range codes(inReturn) {
			wantCheck(t, "P4.1", among(n, n-1, plain(code)), 0, api.OK)
			wantCheck(t, "P4.1", among(n, n-1, api.Insn{Code: code, Jt: 255, Jf: 255, K: math.MaxUint32}), 0, api.OK)
		}
		for _, code := range codes(inNothing, inScratch, inDivisor, inShift) {
			wantCheck(t, "P4.1", among(n, n-1, k(code, 1)), n-1, api.ErrCheckEnd)
		}
	}
	ret, neg := plain(api.RetA), plain(api.Neg)
	wantCheck(t, "P4.1", list(ret, ret, neg), 2, api.ErrCheckEnd)
	wantCheck(t, "P4.1", list(k(api.Ja, 0), ret, neg), 2, api.ErrCheckEnd)
}

func TestFieldsThatAreNotLookedAt(t *testing.T) {
	for _, code := range codes(inNothing, inReturn) {
		wantCheck(t, "P4.1", list(api.Insn{Code: code, Jt: 255, Jf: 255, K: math.MaxUint32}, plain(api.RetK)), 0, api.OK)
		wantCheck(t, "P4.1", list(plain(code), plain(api.RetK)), 0, api.OK)
	}
	for _, code := range codes(inScratch, inDivisor, inShift) {
		wantCheck(t, "P4.1", list(api.Insn{Code: code, Jt: 255, Jf: 255, K: 1}, plain(api.RetK)), 0, api.OK)
	}
	wantCheck(t, "P4.1", list(api.Insn{Code: api.Ja, Jt: 255, Jf: 255}, plain(api.RetK)), 0, api.OK)
	for _, code := range codes(inGoals) {
		wantCheck(t, "P4.1", list(api.Insn{Code: code, K: math.MaxUint32}, plain(api.RetK)), 0, api.OK)
	}
	wantReach(t, list(api.Insn{Code: api.Ja, Jt: 1, Jf: 2, K: 1}, plain(api.Tax), plain(api.RetK)), "1.1")
	wantReach(t, list(api.Insn{Code: api.Tax, Jt: 1, Jf: 1, K: 1}, plain(api.RetA), plain(api.RetK)), "11.")
	wantReach(t, list(api.Insn{Code: api.JgeX, Jt: 1, Jf: 1, K: 0}, plain(api.RetA), plain(api.RetK)), "1.1")
	wantReach(t, list(api.Insn{Code: api.JgeK, K: 1}, plain(api.RetA), plain(api.RetK)), "11.")
	wantReach(t, list(api.Insn{Code: api.RetK, Jt: 0, Jf: 0, K: 1}, plain(api.RetA), plain(api.RetK)), "1..")
}

// faulty tells an instruction of each fault, whatever stands around it.
func faulty() map[api.Errno]api.Insn {
	return map[api.Errno]api.Insn{
		api.ErrCheckCode:  plain(0x115),
		api.ErrCheckMem:   k(api.LdxMem, 16),
		api.ErrCheckZero:  k(api.ModK, 0),
		api.ErrCheckShift: k(api.RshK, 32),
		api.ErrCheckJump:  k(api.Ja, math.MaxUint32),
	}
}

func TestTheFirstOfTwoFaultsCounts(t *testing.T) {
	for e, first := range faulty() {
		for _, second := range faulty() {
			for at := range 4 {
				for behind := at + 1; behind < 5; behind++ {
					p := among(5, at, first)
					p[behind] = second
					wantCheck(t, "P4.1", p, at, e)
				}
			}
		}
		// A fault of point 2 counts ahead of a wrong last instruction, be it that instruction's own.
		wantCheck(t, "P4.1", list(first, plain(api.Txa)), 0, e)
		wantCheck(t, "P4.1", list(plain(api.Txa), first), 1, e)
		wantCheck(t, "P4.1", list(first), 0, e)
	}
}

func TestTwoFaultsInOneInstruction(t *testing.T) {
	for _, high := range []uint16{0x0100, 0x8000, 0xff00} {
		for _, code := range codes(inScratch, inDivisor, inShift, inGoal, inGoals) {
			for _, by := range []uint32{0, 16, 32, math.MaxUint32} {
				i := api.Insn{Code: high | code, Jt: 255, Jf: 255, K: by}
				wantCheck(t, "P4.1", list(i, plain(api.RetK)), 0, api.ErrCheckCode)
				wantCheck(t, "P4.1", list(plain(api.Tax), i), 1, api.ErrCheckCode)
			}
		}
	}
	for _, code := range codes(inGoals) {
		wantCheck(t, "P4.1", list(plain(api.Tax), j(code, 9, 9), plain(api.RetK)), 1, api.ErrCheckJump)
	}
}

func TestAFaultThatNoRunComesTo(t *testing.T) {
	ret := plain(api.RetK)
	for e, i := range faulty() {
		wantCheck(t, "P4.1", list(ret, i, ret), 1, e)
		wantCheck(t, "P4.1", list(k(api.Ja, 1), i, ret), 1, e)
		wantCheck(t, "P4.1", list(j(api.JsetK, 1, 1), i, ret), 1, e)
		wantCheck(t, "P4.1", list(ret, i), 1, e)
		if got, err := check.Reach(list(ret, i, ret)); err != e || len(got) != 0 {
			t.Errorf("P4.2: Reach = %v, %d; want error %d", got, err, e)
		}
	}
}

func TestReach(t *testing.T) {
	ret, tax := plain(api.RetA), plain(api.Tax)
	for _, x := range []struct {
		p    []api.Insn
		want string
	}{
		{list(ret), "1"},
		{list(tax, tax, ret), "111"},
		{list(tax, ret, tax, ret), "11.."},
		{list(ret, tax, k(api.Ja, 0), ret), "1..."},
		{list(k(api.Ja, 0), ret, ret), "11."},
		{list(k(api.Ja, 2), ret, ret, ret), "1..1"},
		{list(j(api.JeqK, 0, 0), ret, ret), "11."},
		{list(j(api.JeqX, 1, 1), ret, ret), "1.1"},
		{list(j(api.JgtK, 0, 1), ret, ret), "111"},
		{list(j(api.JgtX, 1, 0), ret, ret), "111"},
		{list(j(api.JgeK, 0, 2), ret, tax, ret), "11.1"},
		{list(j(api.JgeX, 2, 0), ret, tax, ret), "11.1"},
		{list(j(api.JsetK, 1, 2), ret, tax, ret), "1.11"},
		{list(j(api.JsetX, 2, 2), ret, tax, ret), "1..1"},
		{list(k(api.Ja, 1), j(api.JeqK, 1, 2), ret, ret, ret), "1.1.."},
		{list(k(api.Ja, 1), ret, j(api.JeqK, 0, 1), k(api.Ja, 1), tax, ret), "1.1111"},
		{list(j(api.JeqK, 0, 2), k(api.Ja, 2), tax, tax, ret, ret), "11.11."},
		{list(tax, j(api.JeqK, 0, 1), ret, tax, ret, ret), "11111."},
	} {
		wantReach(t, x.p, x.want)
	}
}

func TestReachOfEachCode(t *testing.T) {
	for _, code := range codes(inNothing, inScratch, inDivisor, inShift) {
		wantReach(t, list(k(code, 1), plain(api.RetK), plain(api.RetK)), "11.")
	}
	for _, code := range codes(inReturn) {
		wantReach(t, list(k(code, 1), plain(api.RetK), plain(api.RetK)), "1..")
	}
	for _, code := range codes(inGoals) {
		p := among(6, 0, plain(code))
		for jt := range 5 {
			for jf := range 5 {
				p[0].Jt, p[0].Jf = uint8(jt), uint8(jf)
				want := []byte("1.....")
				want[1+jt], want[1+jf] = '1', '1'
				wantReach(t, p, string(want))
			}
		}
	}
}

func TestReachOfWhatIsRefused(t *testing.T) {
	known := sorts()
	ret := plain(api.RetK)
	refused := [][]api.Insn{nil, list(plain(api.Tax)), list(ret, plain(api.Neg)), among(api.MaxProgram+1, 0, ret)}
	for _, i := range faulty() {
		refused = append(refused, list(i, ret), list(ret, i, ret), list(ret, i), among(api.MaxProgram, 4000, i))
	}
	for _, p := range refused {
		_, want := verdict(known, p)
		if got, e := check.Reach(p); e != want || want == api.OK || len(got) != 0 {
			t.Errorf("P4.2: Reach(%v) = %d answers, %d; want error %d", short(p), len(got), e, want)
		}
	}
}

func TestReachOfLongPrograms(t *testing.T) {
	const most = api.MaxProgram
	known := sorts()
	straight := among(most, most-1, plain(api.RetA))
	over := among(most, 0, k(api.Ja, most-2))
	// Two ways at every place: gone one by one, they would never end.
	ladder, comb := among(most, most-1, plain(api.RetA)), among(most, most-1, plain(api.RetA))
	for at := range most - 2 {
		ladder[at] = j(api.JeqK, uint8(at%2), uint8(1-at%2))
	}
	for at := 0; at+256 < most; at++ {
		comb[at] = j(api.JgtX, 255, uint8(at%7))
	}
	returned := among(most, 0, plain(api.RetA))
	for _, p := range [][]api.Insn{straight, over, ladder, comb, returned} {
		got, e := check.Reach(p)
		if e != api.OK || !slices.Equal(got, come(known, p)) {
			t.Errorf("P4.2: Reach(%v) of MaxProgram instructions: %d answers, %d", short(p), len(got), e)
		}
	}
	count := func(p []api.Insn) (n int) {
		got, _ := check.Reach(p)
		for _, r := range got {
			if r {
				n++
			}
		}
		return n
	}
	if a, b, c, d := count(straight), count(over), count(ladder), count(returned); a != most || b != 2 || c != most || d != 1 {
		t.Errorf("P4.2: straight %d, over %d, ladder %d, returned %d", a, b, c, d)
	}
}

// anyInsn tells an instruction at that place of a program of n: most of them fine, K, Jt and Jf near their edges.
func anyInsn(r *rand.Rand, all []uint16, at, n int) api.Insn {
	i := api.Insn{Code: all[r.Intn(len(all))], Jt: uint8(r.Intn(256)), Jf: uint8(r.Intn(256)), K: r.Uint32()}
	left := max(1, n-1-at)
	if r.Intn(40) > 0 {
		i.Jt, i.Jf = uint8(r.Intn(min(left, 256))), uint8(r.Intn(min(left, 256)))
	}
	if r.Intn(40) > 0 {
		i.K = 1 + uint32(r.Intn(15))
	} else if r.Intn(2) > 0 {
		i.K = 0
	}
	if i.Code == api.Ja && r.Intn(20) > 0 {
		i.K = uint32(r.Intn(left))
	}
	if r.Intn(200) == 0 {
		i.Code = uint16(r.Intn(1 << 16))
	}
	return i
}

// anyProgram tells a program of n instructions, most often one that ends with a return.
func anyProgram(r *rand.Rand, all []uint16, n int) []api.Insn {
	p := make([]api.Insn, n)
	for at := range p {
		p[at] = anyInsn(r, all, at, n)
	}
	if r.Intn(10) > 0 {
		p[n-1] = k(api.RetK, r.Uint32())
	}
	return p
}

// everyCode tells all known codes; jumps twice more, so that programs have many ways.
func everyCode() []uint16 {
	jumps := codes(inGoal, inGoals)
	return slices.Concat(codes(inNothing, inScratch, inDivisor, inShift, inGoal, inGoals, inReturn), jumps, jumps)
}

func TestManyPrograms(t *testing.T) {
	r := rand.New(rand.NewSource(4))
	known, all := sorts(), everyCode()
	seen := map[api.Errno]int{}
	for range 30000 {
		p := anyProgram(r, all, 1+r.Intn(12))
		place, e := verdict(known, p)
		seen[e]++
		wantCheck(t, "P4.1", p, place, e)
		got, gotErr := check.Reach(p)
		if gotErr != e || e != api.OK && len(got) != 0 || e == api.OK && !slices.Equal(got, come(known, p)) {
			t.Errorf("P4.2: Reach(%v) = %s, %d", p, text(got), gotErr)
		}
	}
	for e := api.ErrCheckCode; e <= api.ErrCheckEnd; e++ {
		if seen[e] < 50 || seen[api.OK] < 5000 {
			t.Errorf("too few programs that are taken, or have error %d: %v", e, seen)
		}
	}
}

// taken tells that many programs that check takes, of at most most instructions each.
func taken(r *rand.Rand, count, most int) [][]api.Insn {
	all := everyCode()
	var out [][]api.Insn
	for len(out) < count {
		p := anyProgram(r, all, 1+r.Intn(most))
		if _, e := check.Check(p); e == api.OK {
			out = append(out, p)
		}
	}
	return out
}

func TestNoJumpGoesBackOrOut(t *testing.T) {
	known := sorts()
	for _, p := range taken(rand.New(rand.NewSource(43)), 5000, 20) {
		for at, i := range p {
			for _, goal := range goals(known, at, i) {
				if goal <= int64(at) || goal >= int64(len(p)) {
					t.Errorf("P4.3: %v: from %d to %d", p, at, goal)
				}
			}
		}
	}
}

// anyBytes tells the bytes of n instructions, small numbers in most of them, so that not all are refused.
func anyBytes(r *rand.Rand, n int) []byte {
	b := make([]byte, 8*n)
	for at := range b {
		switch at % 8 {
		case 0, 4, 5, 6:
			b[at] = byte(r.Intn(40) / 39)
		default:
			b[at] = byte(r.Intn(8))
			if r.Intn(3) == 0 {
				b[at] = byte(r.Intn(256))
			}
		}
	}
	return b
}

func TestDecodedBytes(t *testing.T) {
	r := rand.New(rand.NewSource(2))
	known := sorts()
	fine := 0
	for range 20000 {
		p, _ := insn.Decode(anyBytes(r, 1+r.Intn(4)))
		place, e := verdict(known, p)
		wantCheck(t, "P4.1", p, place, e)
		if e == api.OK {
			fine++
		}
	}
	if fine < 500 {
		t.Errorf("too few programs that are taken: %d", fine)
	}
}

func TestATakenProgramBehindATakenOne(t *testing.T) {
	programs := taken(rand.New(rand.NewSource(431)), 300, 8)
	for x, first := range programs {
		for _, second := range programs[:x+1] {
			both := slices.Concat(first, second)
			wantCheck(t, "P4.3", both, 0, api.OK)
			reached, e := check.Reach(both)
			alone, _ := check.Reach(first)
			if e != api.OK || text(reached) != text(alone)+text(make([]bool, len(second))) {
				t.Errorf("P4.3: %v behind %v: Reach = %s, %d", second, first, text(reached), e)
			}
		}
	}
}

// harmless tells every instruction that is no jump and no return, at the edges of what it may hold.
func harmless() []api.Insn {
	var out []api.Insn
	for _, code := range codes(inNothing) {
		out = append(out, plain(code), api.Insn{Code: code, Jt: 255, Jf: 255, K: math.MaxUint32})
	}
	for _, code := range codes(inScratch) {
		out = append(out, k(code, 0), k(code, 15))
	}
	for _, code := range codes(inDivisor) {
		out = append(out, k(code, 1), k(code, math.MaxUint32))
	}
	for _, code := range codes(inShift) {
		out = append(out, k(code, 0), k(code, 31))
	}
	return out
}

func TestHarmlessInstructionsAhead(t *testing.T) {
	ahead := harmless()
	for x, p := range taken(rand.New(rand.NewSource(432)), 300, 8) {
		alone, _ := check.Reach(p)
		for _, front := range [][]api.Insn{ahead, ahead[x%len(ahead):], ahead[:x%len(ahead)], {ahead[x%len(ahead)]}} {
			both := slices.Concat(front, p)
			wantCheck(t, "P4.3", both, 0, api.OK)
			all := slices.Repeat([]bool{true}, len(front))
			if reached, e := check.Reach(both); e != api.OK || text(reached) != text(all)+text(alone) {
				t.Errorf("P4.3: %d harmless ones ahead of %v: Reach = %s, %d", len(front), p, text(reached), e)
			}
		}
	}
}

func TestAsLongAsThereAreNotTooMany(t *testing.T) {
	const most = api.MaxProgram
	half := among(most/2, 0, k(api.Ja, most/2-2))
	wantCheck(t, "P4.3", slices.Concat(half, half), 0, api.OK)
	wantCheck(t, "P4.3", slices.Concat(half, half, list(plain(api.RetK))), most, api.ErrCheckMany)
	p := list(j(api.JeqK, 0, 1), plain(api.RetA), plain(api.RetK))
	for _, i := range harmless() {
		front := slices.Repeat([]api.Insn{i}, most-2)
		wantCheck(t, "P4.3", slices.Concat(front[1:], p), 0, api.OK)
		wantCheck(t, "P4.3", slices.Concat(front, p), most, api.ErrCheckMany)
	}
}

// cases tells programs that are taken and such as are refused, for what holds of all calls.
func cases() [][]api.Insn {
	out := taken(rand.New(rand.NewSource(3)), 50, 9)
	for _, i := range faulty() {
		out = append(out, among(5, 2, i), among(5, 4, i))
	}
	return append(out, list(plain(api.Tax)), among(api.MaxProgram+1, 3, plain(8)))
}

func TestWhatIsHandedInStaysAsItWas(t *testing.T) {
	for _, p := range cases() {
		whole := slices.Concat(p, harmless())
		before := slices.Clone(whole)
		check.Check(whole[:len(p)])
		reached, _ := check.Reach(whole[:len(p)])
		for at := range reached[:cap(reached)] {
			reached[:cap(reached)][at] = true
		}
		if !slices.Equal(whole, before) {
			t.Errorf("R3: the program, or its spare room, was changed: %v became %v", short(before), short(whole))
		}
	}
}

func TestWhatLiesBehindAProgramIsNotRead(t *testing.T) {
	ret := plain(api.RetK)
	whole := list(plain(api.Tax), ret, ret, ret)
	wantCheck(t, "R3", whole[:1], 0, api.ErrCheckEnd)
	whole = list(k(api.Ja, 0), ret, ret)
	wantCheck(t, "R3", whole[:1], 0, api.ErrCheckJump)
	whole = list(j(api.JeqK, 1, 0), ret, ret)
	wantCheck(t, "R3", whole[:2], 0, api.ErrCheckJump)
	for _, i := range faulty() {
		whole = list(ret, i, plain(api.Tax))
		wantCheck(t, "R3", whole[:1], 0, api.OK)
		wantReach(t, whole[:1], "1")
	}
	wantCheck(t, "R3", among(1<<16, 0, plain(api.Tax))[:api.MaxProgram], 0, api.OK)
}

func TestWhatIsHandedOutIsNewMemory(t *testing.T) {
	for _, p := range cases() {
		first, e := check.Reach(p)
		second, _ := check.Reach(p)
		want := text(second)
		if text(first) != want {
			t.Errorf("R4: two answers differ: %s, %s", text(first), want)
		}
		for at := range first[:cap(first)] {
			first[:cap(first)][at] = !first[:cap(first)][at]
		}
		third, again := check.Reach(p)
		for at := range p {
			p[at] = plain(0xffff)
		}
		if text(second) != want || text(third) != want || again != e {
			t.Errorf("R3: an answer changed with another one or with its program: %s, %s; want %s", text(second), text(third), want)
		}
	}
}

func TestNothingIsKeptFromCallToCall(t *testing.T) {
	programs := cases()
	var first []api.Errno
	for _, p := range programs {
		_, e := check.Check(p)
		first = append(first, e)
	}
	for x := len(programs) - 1; x >= 0; x-- {
		if _, e := check.Check(programs[x]); e != first[x] {
			t.Errorf("R4: Check(%v) = %d, and then %d", short(programs[x]), first[x], e)
		}
	}
}
