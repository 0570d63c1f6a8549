package plan_test

import (
	"testing"

	"riddle/api"
	"riddle/check"
	"riddle/frame"
	"riddle/mean"
	"riddle/plan"
	"riddle/vm"
)

// matches tells what D says of a frame.
func matches(t testing.TB, filter []api.Node, l api.Link, way int, b []byte) bool {
	t.Helper()
	yes, e := mean.Match(filter, l, way, b)
	if e != api.OK {
		t.Fatalf("no filter: %d", e)
	}
	return yes
}

// meant tells what the chapter says of a frame, by mean alone.
func meant(t testing.TB, p api.Policy, l api.Link, way int, b []byte) reply {
	t.Helper()
	if len(b) > api.MaxFrame {
		return reply{class: len(p.Classes)}
	}
	r := reply{pass: true, class: len(p.Classes)}
	if len(p.Pass) > 0 {
		r.pass = matches(t, p.Pass, l, way, b)
	}
	r.active = r.pass
	if len(p.Active) > 0 {
		r.active = r.pass && matches(t, p.Active, l, way, b)
	}
	if len(p.Demand) > 0 {
		r.demand = matches(t, p.Demand, plain(), api.WayOut, b)
	}
	for n := len(p.Classes) - 1; n >= 0; n-- {
		if matches(t, p.Classes[n].Tree, l, api.WayOut, b) {
			r.class = n
		}
	}
	return r
}

// tally counts replies.
type tally struct {
	passed, active, silent, stopped, dialled, not int
	classes                                       map[int]int
}

func (n *tally) count(r reply) {
	if n.classes == nil {
		n.classes = map[int]int{}
	}
	n.classes[r.class]++
	for _, x := range []struct {
		is    bool
		count *int
	}{{r.pass, &n.passed}, {r.active, &n.active}, {r.pass && !r.active, &n.silent}, {!r.pass, &n.stopped}, {r.demand, &n.dialled}, {!r.demand, &n.not}} {
		if x.is {
			*x.count++
		}
	}
}

// agrees holds a plan, both ways, to what the chapter says.
func (n *tally) agrees(t testing.TB, made *plan.Plan, p api.Policy, l api.Link, frames ...[]byte) {
	t.Helper()
	for _, b := range frames {
		for _, way := range ways() {
			want := meant(t, p, l, way, b)
			n.count(want)
			if got := ask(t, made, l, way, b); got != want {
				t.Fatalf("P23.3: %s, %+v, way %d, %d bytes %.120x: %+v; want %+v", told(p), l, way, len(b), b, got, want)
			}
		}
	}
}

// program tells a program that there is.
func program(t testing.TB, n *plan.Plan, which int, l api.Link) []api.Insn {
	t.Helper()
	p, ok := n.Program(which, l)
	if place, e := check.Check(p); !ok || e != api.OK || place != 0 {
		t.Fatalf("P23.4: %d, %+v: %d instructions, %v; check tells %d, %d", which, l, len(p), ok, place, e)
	}
	return p
}

// noProgram holds a plan to there being none.
func noProgram(t testing.TB, n *plan.Plan, which int, l api.Link) {
	t.Helper()
	if p, ok := n.Program(which, l); ok || len(p) != 0 {
		t.Errorf("P23.4: %d, %+v: %d instructions, %v; want none", which, l, len(p), ok)
	}
}

// comesTo holds a program to a filter, both ways; on is the link on which that is asked.
func comesTo(t testing.TB, p []api.Insn, filter []api.Node, on api.Link, frames ...[]byte) {
	t.Helper()
	for _, b := range frames {
		for _, way := range ways() {
			var want uint32
			if matches(t, filter, on, way, b) {
				want = 1
			}
			if v, e := vm.Run(p, frame.Packet(way, b)); e != api.OK || v.Value != want {
				t.Fatalf("P23.4: %+v, way %d, %.120x: %+v, %d; want %d", on, way, b, v, e, want)
			}
		}
	}
}

// asked tells the link on which a filter is asked, by its number.
func asked(which int, l api.Link) api.Link {
	if which == 2 {
		return plain()
	}
	return l
}
