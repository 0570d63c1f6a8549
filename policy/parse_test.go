package policy_test

import (
	"fmt"
	"strconv"
	"strings"
	"testing"

	"riddle/api"
)

func TestExamples(t *testing.T) {
	sayJust(t, api.Policy{Rest: 16}, "")
	sayJust(t, api.Policy{Pass: list(word(api.OfIP)), Classes: []api.Class{class(t, "voice", 8, "udp port 5060")}, Rest: 16, Idle: 30},
		"pass ip # all of IP\nclass voice 8 udp port 5060\nidle 30", "pass ip # all of IP\nclass voice 8 udp port 5060\nidle 30\n")
	refuses(t, "pass ip and", 1, 11, api.ErrParseEnd)
	refuses(t, "pass", 1, 4, api.ErrParseEnd)
	for _, s := range []string{"  class a 0 ip", "class A 1 ip", "rest 5 6", "idle 05", "fly"} {
		refuses(t, s, 1, 0, api.ErrPolicyLine)
	}
	refuses(t, "idle 1\nidle 2", 2, 0, api.ErrPolicyTwice)
	refuses(t, "class a 1 ip\nclass a 2 udp", 2, 0, api.ErrPolicyTwice)
	refuses(t, "pass len", 1, 5, api.ErrTypeBool)
}

// Each line says its own, and nothing else.
func TestEachLine(t *testing.T) {
	ip := list(word(api.OfIP))
	for s, want := range map[string]api.Policy{
		"pass ip":         {Pass: ip, Rest: 16},
		"active ip":       {Active: ip, Rest: 16},
		"demand ip":       {Demand: ip, Rest: 16},
		"class a 1 ip":    {Classes: []api.Class{{Name: "a", Depth: 1, Tree: ip}}, Rest: 16},
		"rest 1":          {Rest: 1},
		"rest 16":         {Rest: 16},
		"rest 1024":       {Rest: 1024},
		"idle 0":          {Rest: 16},
		"idle 1":          {Rest: 16, Idle: 1},
		"idle 4294967295": {Rest: 16, Idle: 4294967295},
		"most 0":          {Rest: 16},
		"most 65536":      {Rest: 16, Most: 65536},
		"most 4294967295": {Rest: 16, Most: 4294967295},
		"hold 0":          {Rest: 16},
		"hold 1":          {Rest: 16, Hold: 1},
		"hold 64":         {Rest: 16, Hold: 64},
	} {
		sayJust(t, want, s, s+"\n", "\n"+s, "\n\n"+s+"\n\n")
	}
}

func TestAllLines(t *testing.T) {
	sayJust(t, good(t), lines("pass ip or ip6", "active not lcp", "demand outbound and ip", "class voice 8 udp port 5060", "class b2 20 tcp", "rest 7", "idle 30", "most 3600", "hold 5"))
}

// Numbers in lines: all that may stand there, and what is beside them.
func TestNumbersInLines(t *testing.T) {
	for _, x := range []struct {
		ahead, behind string
		first, last   int
		of            func(p api.Policy) int
	}{
		{"rest ", "", 1, 1024, func(p api.Policy) int { return p.Rest }},
		{"hold ", "", 0, 64, func(p api.Policy) int { return p.Hold }},
		{"class a ", " ip", 1, 1024, func(p api.Policy) int { return p.Classes[0].Depth }},
	} {
		for n := range 3000 {
			s := x.ahead + strconv.Itoa(n) + x.behind
			if n < x.first || n > x.last {
				refuses(t, s, 1, 0, api.ErrPolicyLine)
			} else if p := says(t, s); x.of(p) != n {
				t.Errorf("P20.2: %q says %s", s, told(p))
			}
		}
		for _, n := range append(noNumbers(), "4294967295", "4294967297", "4294967312", "4294967360", "2147483648", "2147483649") {
			refuses(t, x.ahead+n+x.behind, 1, 0, api.ErrPolicyLine)
		}
	}
	for _, head := range []string{"idle", "most"} {
		for _, n := range noNumbers() {
			refuses(t, head+" "+n, 1, 0, api.ErrPolicyLine)
		}
	}
}

// noNumbers tells words that are no numbers of lines.
func noNumbers() []string {
	return []string{
		"00", "01", "05", "007", "016", "0000000000", "00000000001", "-1", "-0", "+1", "+0", "1.", "1.0", ".5", "0x1", "0x10", "0b1", "0o1", "1_0", "1e1", "1,0", "one", "x", "1x", "x1", "1\r", "\r1", "1\x00", "1;", "(1)", "١", "\u00a01", "4294967296", "4294967297", "9999999999", "10000000000", "18446744073709551615", "18446744073709551616", "18446744073709551617", strings.Repeat("9", 100), strings.Repeat("9", 60000),
	}
}

func TestNamesInLines(t *testing.T) {
	fit, unfit := names()
	for _, name := range fit {
		if p := says(t, "class "+name+" 1 ip"); len(p.Classes) != 1 || p.Classes[0].Name != name {
			t.Errorf("P20.2: %q as a name says %s", name, told(p))
		}
	}
	for _, name := range unfit {
		if strings.ContainsAny(name, " \t\n#") || name == "" {
			continue
		}
		refuses(t, "class "+name+" 1 ip", 1, 0, api.ErrPolicyLine)
	}
}

// FILTER is all behind the words ahead of it: what is a word of the policy, too, is read by parse alone.
func TestFiltersInLines(t *testing.T) {
	for _, s := range []string{"ip", "(ip)", "!ip", "not\tip", "ip and\tnot (udp or tcp)", "portrange 1-9", "ip[2:2] & 0x0f > len / 2", "net 10.0.0.0/8 or host fe80::1", "  ip  ", "\tip\t", "\rip\r", "ip\r", flat(), strings.Repeat("!", 200) + "ip", strings.Repeat("(", 200) + "ip" + strings.Repeat(")", 200)} {
		tree := treeOf(t, s)
		sayJust(t, api.Policy{Pass: tree, Rest: 16}, "pass "+s, "pass\t"+s, "pass "+s+" # "+s)
		sayJust(t, api.Policy{Active: tree, Rest: 16}, "active "+s, "active\t"+s+"#")
		sayJust(t, api.Policy{Demand: tree, Rest: 16}, "demand "+s, "demand\t"+s)
		sayJust(t, api.Policy{Classes: []api.Class{{Name: "x", Depth: 9, Tree: tree}}, Rest: 16}, "class x 9 "+s, " class\tx\t9\t"+s)
	}
	sayJust(t, api.Policy{Classes: []api.Class{{Name: "class", Depth: 9, Tree: list(word(api.OfIP))}, {Name: "ip", Depth: 9, Tree: list(word(api.OfUDP))}}, Rest: 16}, "class class 9 ip\nclass ip 9 udp")
}

// Classes stand in the order of their lines, whatever their names and depths are.
func TestClassesInOrder(t *testing.T) {
	p := says(t, lines("class zz 9 tcp", "rest 5", "class aa 1024 udp", "pass ip", "class m 1 ip"))
	want := api.Policy{Pass: list(word(api.OfIP)), Rest: 5, Classes: []api.Class{class(t, "zz", 9, "tcp"), class(t, "aa", 1024, "udp"), class(t, "m", 1, "ip")}}
	if !same(p, want) {
		t.Errorf("P20.2: %s; want %s", told(p), told(want))
	}
}

// As many classes and lines as may be; one more is one too many.
func TestMostLines(t *testing.T) {
	sixteen := manyClasses(16)
	if p := says(t, lines(sixteen...)); len(p.Classes) != 16 || p.Classes[15].Name != "c15" || p.Classes[15].Depth != 16 {
		t.Errorf("P20.2: %s", told(p))
	}
	refuses(t, lines(manyClasses(17)...), 17, 0, api.ErrPolicyMany)
	refuses(t, lines(manyClasses(100)...), 17, 0, api.ErrPolicyMany)
	spread := strings.Join(sixteen, "\n\n# so\n")
	sayJust(t, says(t, lines(sixteen...)), spread)
	refuses(t, spread+"\n\n\nclass a 1 ip", 49, 0, api.ErrPolicyMany)

	for _, x := range []struct {
		count int
		line  string
	}{{1, ""}, {2, ""}, {255, ""}, {256, ""}, {256, "#"}, {256, " \t"}, {256, "# fly"}} {
		all := strings.Repeat(x.line+"\n", x.count-1)
		sayJust(t, api.Policy{Rest: 16}, all, all+x.line, all+x.line+"\n")
		sayJust(t, api.Policy{Rest: 16, Idle: 7}, all+"idle 7", all+"idle 7\n", "idle 7\n"+all)
	}
	for _, behind := range []string{"\n", "#", " ", "idle 7", "idle 7\n", "fly", "idle 7\nfly", "pass (", "\n\n\n", strings.Repeat("\n", 60000), "\r"} {
		refuses(t, strings.Repeat("\n", 256)+behind, 257, 0, api.ErrPolicyMany)
		refuses(t, "idle 5\n"+strings.Repeat("#\n", 255)+behind, 257, 0, api.ErrPolicyMany)
	}
}

// Of texts with too many lines a line that is wrong ahead of them decides.
func TestWrongAheadOfTooMany(t *testing.T) {
	for _, at := range []int{1, 2, 100, 255, 256} {
		all := strings.Repeat("\n", at-1)
		behind := strings.Repeat("\n", 300)
		refuses(t, all+"fly"+behind, at, 0, api.ErrPolicyLine)
		refuses(t, all+"pass ip;"+behind, at, 7, api.ErrLexByte)
		if at > 1 {
			refuses(t, "rest 1"+all+"rest 1"+behind, at, 0, api.ErrPolicyTwice)
		}
	}
}

// The longest text, and one byte more, which counts ahead of all that the text is.
func TestLongest(t *testing.T) {
	fill := func(s, with string, size int) string { return s + strings.Repeat(with, size-len(s)) }
	for _, size := range []int{api.MaxSource - 1, api.MaxSource} {
		sayJust(t, api.Policy{Rest: 16}, fill("", "#", size), fill("", " ", size), fill("", "\t", size))
		sayJust(t, api.Policy{Rest: 16, Idle: 3}, fill("idle 3", " ", size), fill("idle 3#", "#", size), fill("idle 3\n", " ", size))
		sayJust(t, api.Policy{Pass: list(word(api.OfIP)), Rest: 16}, fill("pass ip", " ", size), fill("pass", " ", size-2)+"ip", fill("", " ", size-7)+"pass ip")
		refuses(t, fill("pass", " ", size), 1, size, api.ErrParseEnd)
		refuses(t, fill("pass", " ", size-1)+";", 1, size-1, api.ErrLexByte)
		refuses(t, fill("pass", "(", size), 1, 0, api.ErrPolicyLine)
		refuses(t, fill("pass ", "(", size), 1, 5+api.MaxNest, api.ErrParseDeep)
		refuses(t, fill("rest 1 ", "1", size), 1, 0, api.ErrPolicyLine)
		refuses(t, "rest 1"+strings.Repeat(" 1", (size-6)/2), 1, 0, api.ErrPolicyLine)
	}
	for _, size := range []int{api.MaxSource + 1, api.MaxSource + 2, 2 * api.MaxSource, 1 << 20} {
		for _, s := range []string{"", "#", "idle 3\n", "fly\n", "pass (\n", "idle 1\nidle 1\n", strings.Repeat("\n", 300)} {
			for _, with := range []string{" ", "#", "\n", "x"} {
				refuses(t, fill(s, with, size), 0, 0, api.ErrPolicyLong)
			}
		}
	}
}

// Each byte by itself, as a line, and behind a line's number.
func TestEachByte(t *testing.T) {
	for c := range 256 {
		s := string([]byte{byte(c)})
		if strings.Contains(" \t\n#", s) {
			sayJust(t, api.Policy{Rest: 16}, s)
			sayJust(t, api.Policy{Rest: 5}, "rest 5"+s, s+"\nrest 5", "rest 5\n"+s)
			continue
		}
		refuses(t, s, 1, 0, api.ErrPolicyLine)
		refuses(t, "rest 5 "+s, 1, 0, api.ErrPolicyLine)
		refuses(t, s+"rest 5", 1, 0, api.ErrPolicyLine)
		refuses(t, "rest"+s+"5", 1, 0, api.ErrPolicyLine)
		refuses(t, fmt.Sprintf("rest 5\n\n%s\n", s), 3, 0, api.ErrPolicyLine)
		if c < '0' || c > '9' {
			refuses(t, "rest 5"+s, 1, 0, api.ErrPolicyLine)
		}
	}
}
