package plan_test

import (
	"math"
	"slices"
	"testing"

	"riddle/api"
	"riddle/vm"
)

// numbers tells numbers of filters that there are in no policy.
func numbers() []int {
	return []int{-1, -2, -3, -1 << 32, math.MinInt, 19, 20, 100, 255, 256, 1 << 16, 1 << 32, 1<<32 + 1, 1<<32 + 3, math.MaxInt}
}

// Each filter that is there has its program on each link, and what is not there has none.
func TestPrograms(t *testing.T) {
	for _, lines := range [][]string{
		nil, {"pass ip"}, {"active not udp"}, {"demand port 53"}, {"pass not mp", "demand ip or ip6"}, {"active ip", "demand tcp"}, {"class a 1 inbound"},
		{"pass ppp[30] = 0", "active not ppp[30] = 0", "demand outbound", "class a 1 udp", "class b 1 mp", "class c 1 not ip"},
	} {
		p := policyOf(t, lines...)
		n := of(t, p)
		for which, filter := range filters(p) {
			for turn, l := range links() {
				if len(filter) == 0 {
					noProgram(t, n, which, l)
					continue
				}
				on := asked(which, l)
				comesTo(t, program(t, n, which, l), filter, on, oneOf(11, turn+which, frames(on))...)
			}
		}
		for _, which := range append(numbers(), 3+len(p.Classes), 4+len(p.Classes)) {
			for _, l := range links() {
				noProgram(t, n, which, l)
			}
		}
		for _, l := range noLinks() {
			for which := range 20 {
				noProgram(t, n, which, l)
			}
		}
	}
}

// The last class of as many as may be, and one more.
func TestLastProgram(t *testing.T) {
	p := full(t)
	n := of(t, p)
	for turn, l := range links() {
		comesTo(t, program(t, n, 18, l), p.Classes[15].Tree, l, oneOf(7, turn, frames(l))...)
		noProgram(t, n, 19, l)
		noProgram(t, n, -1, l)
	}
	for count := range api.MaxClasses + 1 {
		fewer := copied(p)
		fewer.Classes = fewer.Classes[:count]
		n := of(t, fewer)
		for which := 3; which < 25; which++ {
			if which < 3+count {
				comesTo(t, program(t, n, which, rich()), p.Classes[which-3].Tree, rich(), f())
			} else {
				noProgram(t, n, which, rich())
			}
		}
	}
}

// Demand's program is the one for the plain link, whatever link is asked for; the others' hang on the link.
func TestDemandIsForThePlainLink(t *testing.T) {
	n := said(t, "pass udp", "active udp", "demand udp", "class a 1 udp")
	short := append([]byte{api.WayOut}, f()[2:]...)
	want := program(t, n, 2, plain())
	for _, l := range links() {
		if p := program(t, n, 2, l); !slices.Equal(p, want) {
			t.Errorf("P23.4: %+v: another program of Demand", l)
		}
		for which := range 4 {
			v, e := vm.Run(program(t, n, which, l), short)
			if e != api.OK || (v.Value == 1) != (which != 2 && l.ACFC) {
				t.Errorf("P23.4: %d, %+v: %+v, %d", which, l, v, e)
			}
		}
	}
}

// What the calls answer is what the programs that Program tells come to.
func TestCallsAndPrograms(t *testing.T) {
	n := said(t, "pass ip or ip6", "active not udp", "demand udp or mp", "class a 1 udp", "class b 1 len > 50")
	for turn, l := range links() {
		var of [5][]api.Insn
		for which := range of {
			of[which] = program(t, n, which, l)
		}
		for _, b := range oneOf(5, turn, frames(l)) {
			for _, way := range ways() {
				yes := func(which, way int) bool {
					v, e := vm.Run(of[which], append([]byte{byte(way)}, b...))
					if e != api.OK || v.Value > 1 {
						t.Fatalf("P23.4: %d, %+v: %+v, %d", which, l, v, e)
					}
					return v.Value == 1
				}
				want := reply{pass: yes(0, way), active: yes(0, way) && yes(1, way), demand: yes(2, api.WayOut), class: 2}
				for n := 1; n >= 0; n-- {
					if yes(3+n, api.WayOut) {
						want.class = n
					}
				}
				says(t, n, l, way, b, want)
			}
		}
	}
}

// A policy's filters have the programs that they would have alone.
func TestProgramsStandByThemselves(t *testing.T) {
	p := full(t)
	together := of(t, p)
	for m, c := range p.Classes {
		alone := of(t, api.Policy{Rest: 3, Pass: c.Tree, Demand: c.Tree})
		for _, l := range links() {
			if !slices.Equal(program(t, together, 3+m, l), program(t, alone, 0, l)) {
				t.Errorf("R4: %s, %+v: the program hangs on the others", c.Name, l)
			}
		}
		if !slices.Equal(program(t, alone, 2, rich()), program(t, alone, 0, plain())) {
			t.Errorf("R4: %s: Demand has another program than Pass", c.Name)
		}
	}
}
