package plan_test

import (
	"testing"

	"riddle/api"
	"riddle/plan"
)

// plans tells plans of several policies: without filters, with some, with all.
func plans(t testing.TB) []*plan.Plan {
	t.Helper()
	return []*plan.Plan{of(t, api.Policy{Rest: 1}), said(t, "pass ip"), said(t, "pass 1 = 1", "active 1 = 1", "demand 1 = 1", "class a 1 1 = 1"), of(t, full(t))}
}

// tooLong and longest are no filter's business, and a filter's.
func tooLong() []byte { return append(f(), make([]byte, api.MaxFrame+1-len(f()))...) }
func longest() []byte { return tooLong()[:api.MaxFrame] }

// refuses holds Pass and Active to an error, with nothing beside it.
func refuses(t testing.TB, n *plan.Plan, l api.Link, way int, b []byte, want api.Errno) {
	t.Helper()
	if yes, e := n.Pass(l, way, b); yes || e != want {
		t.Errorf("P23.2: Pass, %+v, way %d, %d bytes: %v, %d; want false, %d", l, way, len(b), yes, e, want)
	}
	if yes, e := n.Active(l, way, b); yes || e != want {
		t.Errorf("P23.2: Active, %+v, way %d, %d bytes: %v, %d; want false, %d", l, way, len(b), yes, e, want)
	}
}

// A link that may not be counts ahead of a way that is none, and both ahead of a frame that is too long.
func TestWhichErrorCounts(t *testing.T) {
	for _, n := range plans(t) {
		for _, b := range [][]byte{nil, f(), longest(), tooLong()} {
			for _, l := range noLinks() {
				for _, way := range append(noWays(), ways()...) {
					refuses(t, n, l, way, b, api.ErrPlanLink)
				}
				if class, e := n.Class(l, b); class != 0 || e != api.ErrPlanLink {
					t.Errorf("P23.2: Class, %+v, %d bytes: %d, %d; want 0, %d", l, len(b), class, e, api.ErrPlanLink)
				}
			}
			for _, l := range links() {
				for _, way := range noWays() {
					refuses(t, n, l, way, b, api.ErrPlanWay)
				}
			}
		}
	}
}

// A frame of one byte more than may be is nothing to any plan; one of MaxFrame bytes is a frame like others.
func TestLength(t *testing.T) {
	always := []string{"pass 1 = 1", "active len > 0", "demand 1 = 1", "class a 1 1 = 1"}
	for _, x := range []struct {
		lines []string
		fits  reply
		last  int
	}{
		{nil, reply{pass: true, active: true, class: 0}, 0},
		{always, reply{pass: true, active: true, demand: true, class: 0}, 1},
		{[]string{"class a 1 udp", "class b 2 ip"}, reply{pass: true, active: true, class: 0}, 2},
		{[]string{"pass len = 65535", "demand len >= 65535", "class a 1 len < 65535", "class b 1 ppp[65534] = 0"}, reply{pass: true, active: true, demand: true, class: 1}, 2},
		{[]string{"pass len > 65535", "demand not ip", "class a 1 ppp[65535] = 0"}, reply{class: 1}, 1},
	} {
		n := said(t, x.lines...)
		for _, l := range links() {
			for _, way := range ways() {
				says(t, n, l, way, longest(), x.fits)
				for _, more := range []int{0, 1, 1000, 1 << 20} {
					says(t, n, l, way, append(tooLong(), make([]byte, more)...), reply{class: x.last})
				}
			}
		}
	}
}

// Neither does a refused call change what is said later.
func TestRefusedChangesNothing(t *testing.T) {
	n := said(t, "pass ip", "active udp", "demand udp", "class a 1 port 53", "class b 1 ip")
	for _, l := range noLinks() {
		refuses(t, n, l, 0, f(), api.ErrPlanLink)
		refuses(t, n, plain(), l.MP+9, f(), api.ErrPlanWay)
		noProgram(t, n, 0, l)
		for _, way := range ways() {
			says(t, n, plain(), way, f(), reply{pass: true, active: true, demand: true, class: 0})
		}
	}
}
