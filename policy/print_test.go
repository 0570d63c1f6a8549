package policy_test

import (
	"fmt"
	"strings"
	"testing"

	"riddle/api"
	"riddle/policy"
	"riddle/show"
)

// printed holds Print to a text.
func printed(t testing.TB, p api.Policy, want string) {
	t.Helper()
	if s, e := policy.Print(p); s != want || e != api.OK {
		t.Errorf("P20.3: %s: %.300q, %d; want %.300q", told(p), s, e, want)
	}
}

func TestPrint(t *testing.T) {
	printed(t, good(t), lines("pass ip or ip6", "active not lcp", "demand outbound and ip", "class voice 8 udp port 5060", "class b2 20 tcp", "rest 7", "idle 30", "most 3600", "hold 5"))
	printed(t, api.Policy{Rest: 16}, "rest 16\n")
	printed(t, api.Policy{Rest: 1, Pass: []api.Node{}, Classes: []api.Class{}}, "rest 1\n")
	printed(t, api.Policy{Rest: 1024, Idle: 4294967295, Most: 4294967295, Hold: 64}, "rest 1024\nidle 4294967295\nmost 4294967295\nhold 64\n")
}

// What there is none of, and a number that is 0, is left out; all else stands there, and so does Rest, which is never left out.
func TestLeftOut(t *testing.T) {
	ip := list(word(api.OfIP))
	all := []struct {
		line string
		set  func(p *api.Policy)
	}{
		{"pass ip\n", func(p *api.Policy) { p.Pass = ip }},
		{"active ip\n", func(p *api.Policy) { p.Active = ip }},
		{"demand ip\n", func(p *api.Policy) { p.Demand = ip }},
		{"class b 1024 ip\n", func(p *api.Policy) { p.Classes = append(p.Classes, api.Class{Name: "b", Depth: 1024, Tree: ip}) }},
		{"class a0 1 ip\n", func(p *api.Policy) { p.Classes = append(p.Classes, api.Class{Name: "a0", Depth: 1, Tree: ip}) }},
		{"rest 16\n", func(p *api.Policy) {}},
		{"idle 1\n", func(p *api.Policy) { p.Idle = 1 }},
		{"most 1\n", func(p *api.Policy) { p.Most = 1 }},
		{"hold 1\n", func(p *api.Policy) { p.Hold = 1 }},
	}
	for some := range 1 << len(all) {
		p, want := api.Policy{Rest: 16}, ""
		for at, x := range all {
			if some>>at&1 == 1 {
				x.set(&p)
				want += x.line
			} else if strings.HasPrefix(x.line, "rest") {
				want += x.line
			}
		}
		printed(t, p, want)
		sayJust(t, p, want)
	}
}

// Filters stand there as show tells them, whatever they were read from.
func TestFiltersByShow(t *testing.T) {
	for s, want := range map[string]string{
		"(ip)&&!(udp||tcp)":                    "ip and not (udp or tcp)",
		"1-(2-3)=0x10":                         "1 - (2 - 3) = 16",
		"ip[(1+2):2] != -len":                  "ip[1 + 2:2] != -len",
		"portrange 5-5 or src net 10.0.0.0/8":  "port 5 or src net 10.0.0.0/8",
		"(ip or udp) or tcp":                   "ip or udp or tcp",
		"ip or (udp or tcp)":                   "ip or (udp or tcp)",
		"host 1:0:0:0:0:0:0:0 and\rip[0x0]==0": "host 1:: and ip[0] = 0",
	} {
		tree := treeOf(t, s)
		if text, _ := show.Show(tree); text != want {
			t.Fatalf("%q: show tells %q", s, text)
		}
		p := api.Policy{Pass: tree, Active: tree, Demand: tree, Classes: []api.Class{{Name: "x", Depth: 2, Tree: tree}}, Rest: 3}
		printed(t, p, lines("pass "+want, "active "+want, "demand "+want, "class x 2 "+want, "rest 3"))
		printed(t, says(t, lines("pass "+s, "class x 2\t"+s+"#", "rest 3", "demand "+s, "active "+s)), lines("pass "+want, "active "+want, "demand "+want, "class x 2 "+want, "rest 3"))
	}
}

// ofSize tells a policy whose text has just that size, which is about MaxSource: twelve long classes, and one that fills it up.
func ofSize(t testing.TB, size int) api.Policy {
	t.Helper()
	p := api.Policy{Rest: 1}
	for i := range 12 {
		p.Classes = append(p.Classes, class(t, string(rune('a'+i)), 1, sum(410)))
	}
	p.Classes = append(p.Classes, class(t, "m", 1, "1 + 1 + 1 = 1"))
	left := size - len(prints(t, p))
	// What does not fill an addend of 13 bytes makes the first two ones longer, which have at most ten digits.
	first := min(left%13, 9)
	p.Classes[12] = class(t, "m", 1, digits(1+first)+" + "+digits(1+left%13-first)+" + "+sum(left/13))
	return p
}

// sum is a filter with so many addends of ten digits, 13 bytes each.
func sum(many int) string { return strings.Repeat("4294967295 + ", many) + "1 = 1" }

// digits is a number of so many digits.
func digits(many int) string { return strings.Repeat("1", many) }

// A text of MaxSource bytes may be, and none of more, though the policy may.
func TestTooLong(t *testing.T) {
	for size := api.MaxSource - 20; size <= api.MaxSource; size++ {
		p := ofSize(t, size)
		may(t, size, p)
		if s := prints(t, p); len(s) != size {
			t.Fatalf("%d bytes; want %d", len(s), size)
		}
	}
	for size := api.MaxSource + 1; size < api.MaxSource+20; size++ {
		tooLong(t, size, ofSize(t, size))
	}
	p := ofSize(t, api.MaxSource-len("hold 1\n"))
	p.Hold = 1
	may(t, "hold 1", p)
	p.Hold = 10
	tooLong(t, "hold 10", p)
	p.Hold, p.Idle = 0, 1
	may(t, "idle 1", p)
	p.Idle = 10
	tooLong(t, "idle 10", p)
	p.Idle, p.Rest = 1, 10
	tooLong(t, "rest 10", p)
	// Whatever is wrong with a policy counts ahead of its text.
	p.Hold = 65
	mayNot(t, "hold 65", p, api.ErrPolicyWrong)
	p.Classes = append(p.Classes, make([]api.Class, 16)...)
	mayNot(t, "too many classes", p, api.ErrPolicyMany)

	long := treeOf(t, sum(425))
	p = api.Policy{Rest: 1024, Pass: long, Active: long, Demand: long, Hold: 64}
	may(t, "three long filters", p)
	for i := range 16 {
		p.Classes = append(p.Classes, api.Class{Name: fmt.Sprintf("c%d", i), Depth: 1024, Tree: long})
	}
	tooLong(t, "nineteen long filters", p)
}

// tooLong holds Print to ErrPolicyLong, of a policy that may be.
func tooLong(t testing.TB, what any, p api.Policy) {
	t.Helper()
	if e := policy.Check(p); e != api.OK {
		t.Errorf("P20.1: %v: %d", what, e)
	}
	if s, e := policy.Print(p); s != "" || e != api.ErrPolicyLong {
		t.Errorf("P20.3: %v: %d bytes, %d", what, len(s), e)
	}
}
