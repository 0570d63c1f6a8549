package policy_test

import (
	"math/rand"
	"slices"
	"strings"
	"testing"

	"riddle/api"
	"riddle/policy"
)

// orders calls do with a list in each order.
func orders(l []string, do func(l []string)) {
	var place func(at int)
	place = func(at int) {
		if at == len(l) {
			do(l)
			return
		}
		for i := at; i < len(l); i++ {
			l[at], l[i] = l[i], l[at]
			place(at + 1)
			l[at], l[i] = l[i], l[at]
		}
	}
	place(0)
}

// Lines that are no classes may stand in any order, and anywhere among those of classes.
func TestAnyOrder(t *testing.T) {
	want := good(t)
	orders([]string{"pass ip or ip6", "active not lcp", "demand outbound and ip", "rest 7", "idle 30", "most 3600", "hold 5"}, func(l []string) {
		p := says(t, strings.Join(l[:3], "\n")+"\nclass voice 8 udp port 5060\n"+strings.Join(l[3:5], "\n")+"\nclass b2 20 tcp\n"+strings.Join(l[5:], "\n"))
		if !same(p, want) {
			t.Fatalf("P20.4: in the order %q: %s", l, told(p))
		}
	})
}

// Classes among each other stand as their lines do.
func TestOrderOfClasses(t *testing.T) {
	classes := map[string]api.Class{
		"class voice 8 udp port 5060": class(t, "voice", 8, "udp port 5060"),
		"class b2 20 tcp":             class(t, "b2", 20, "tcp"),
		"class a 1 udp port 5060":     class(t, "a", 1, "udp port 5060"),
		"class b 20 not tcp":          class(t, "b", 20, "not tcp"),
	}
	seen := map[string]int{}
	orders([]string{"class voice 8 udp port 5060", "class b2 20 tcp", "class a 1 udp port 5060", "class b 20 not tcp"}, func(l []string) {
		want := api.Policy{Rest: 16}
		for _, line := range l {
			want.Classes = append(want.Classes, classes[line])
		}
		sayJust(t, want, lines(l...), lines("", l[0], "# so", l[1], l[2], "", l[3]))
		text := prints(t, want)
		if text != lines(l...)+"rest 16\n" {
			t.Errorf("P20.3: %q of %q", text, l)
		}
		seen[text]++
	})
	if len(seen) != 24 {
		t.Errorf("P20.4: %d texts of 24 orders", len(seen))
	}
}

// Remarks, lines without words and blanks change nothing, at whichever place they stand.
func TestBlanksAndRemarks(t *testing.T) {
	rows := [][]string{{"pass", "ip or ip6"}, {"active", "not lcp"}, {"class", "voice", "8", "udp port 5060"}, {"rest", "7"}, {"demand", "outbound and ip"}, {"class", "b2", "20", "tcp"}, {"idle", "30"}, {"most", "3600"}, {"hold", "5"}}
	want := good(t)
	chance := rand.New(rand.NewSource(31))
	one := func(some ...string) string { return some[chance.Intn(len(some))] }
	for range 3000 {
		s := ""
		for _, row := range rows {
			for chance.Intn(3) == 0 {
				s += one("", " ", "\t", " \t ", "#", " # so", "\t#rest 9", "#\r", "## pass (") + "\n"
			}
			s += one("", "", " ", "\t", "\t  \t") + strings.Join(row, one(" ", "\t", "  ", " \t", "\t\t ")) + one("", "", " ", "\t", " \t \t") + one("", "", "#", "# so", "#\t", "# rest 9", "#;(") + "\n"
		}
		sayJust(t, want, s, s[:len(s)-1], s+"\n\n", s+" ", s+"# the end")
	}
}

// Each place of a text, and what is put there: a blank between words and at a line's ends, a line without words between lines.
func TestAtEachPlace(t *testing.T) {
	all := lines("pass ip or ip6", "active not lcp", "demand outbound and ip", "class voice 8 udp port 5060", "class b2 20 tcp", "rest 7", "idle 30", "most 3600", "hold 5")
	want := good(t)
	for at := range len(all) + 1 {
		first := at == 0 || all[at-1] == '\n'
		last := at == len(all) || all[at] == '\n'
		if first || last || all[at] == ' ' || all[at-1] == ' ' {
			for _, blanks := range []string{" ", "\t", "\t \t", strings.Repeat(" ", 1000)} {
				sayJust(t, want, all[:at]+blanks+all[at:])
			}
		}
		if first || last {
			for _, more := range []string{"\n", "\n\n", " \n", "\n\t", "\n#\n", " # so\n", "\n# so", "\n\n\n#;\n\n"} {
				if first && !strings.HasSuffix(more, "\n") && strings.Contains(more, "#") {
					more += "\n" // else the line that begins here were in the remark
				}
				sayJust(t, want, all[:at]+more+all[at:])
			}
		}
		if last {
			sayJust(t, want, all[:at]+"#"+all[at:], all[:at]+" # so\t"+all[at:])
		}
		if all[min(at, len(all)-1)] == ' ' {
			sayJust(t, want, all[:at]+"\t"+all[at+1:])
		}
	}
}

// What is said in many ways has one text, which says it too.
func TestOneText(t *testing.T) {
	want := lines("pass ip and not (udp or tcp)", "class a 1 ip", "rest 16", "idle 5")
	for _, s := range []string{
		want,
		"idle 5\nrest 16\nclass a 1 ip\npass ip&&!(udp||tcp)",
		"class a 1 (ip)\nidle 5\npass (ip) and (not ((udp) or tcp)) # so\nhold 0\nmost 0\n",
		"\n\nmost 0\n idle\t5\n\tclass\ta\t1\t((ip))\npass ip and!(udp\ror tcp)",
	} {
		p := says(t, s)
		printed(t, p, want)
		if e := policy.Check(p); e != api.OK {
			t.Errorf("P20.4: %q: %d", s, e)
		}
	}
	texts := []string{"", "rest 1", "idle 1", "most 1", "hold 1", "pass ip", "active ip", "demand ip", "class a 1 ip", "class b 1 ip", "class a 2 ip", "class a 1 udp", "pass udp", "class a 1 ip\nclass b 1 ip", "class b 1 ip\nclass a 1 ip"}
	var all []string
	for _, s := range texts {
		all = append(all, prints(t, says(t, s)))
	}
	slices.Sort(all)
	if len(slices.Compact(all)) != len(texts) {
		t.Errorf("P20.4: two policies have one text: %q", all)
	}
}
