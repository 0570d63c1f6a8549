package policy_test

import (
	"strings"
	"testing"

	"riddle/api"
	"riddle/parse"
	"riddle/types"
)

// Lines with one fault, which stands in its own line, with no place, whatever stands around it.
func TestWrongLines(t *testing.T) {
	for _, s := range wrongLines() {
		refuses(t, s, 1, 0, api.ErrPolicyLine)
		refuses(t, s+"\n", 1, 0, api.ErrPolicyLine)
		refuses(t, " \t"+s+"\t ", 1, 0, api.ErrPolicyLine)
		refuses(t, s+" # so", 1, 0, api.ErrPolicyLine)
		refuses(t, "\n# so\npass ip\n\n"+s+"\nidle 1\n", 5, 0, api.ErrPolicyLine)
	}
}

// wrongLines tells lines that are ErrPolicyLine.
func wrongLines() []string {
	return []string{
		// The first word is none of the table's.
		"fly", "Pass ip", "PASS ip", "pas ip", "passs ip", "pass(ip)", "pass!ip", "pass: ip", "pass\r", "pass\rip", "passip", "ip", "ip and udp", "class1 a 1 ip", "rest5", "rest=5", "idle5", "holds 1", "5", "-", "\"pass\" ip", "pass\vip", "pass\fip", "pass\x00ip", "\ufeffpass ip", "pass\u00a0ip", "\r", "5 rest", "a class 1 ip",
		// A word that must stand is not there.
		"class", "class ", "class a", "class a\t", "class 5", "class 5 ip", "rest", "rest ", "idle", "idle\t", "most", "most ", "hold", "hold  ",
		// A word more.
		"rest 5 6", "rest 5 x", "rest 5 5", "rest 5\t;", "rest 5 \r", "idle 1 2", "idle 1 s", "most 1 2", "most 3600 s", "hold 1 2", "hold 0 0", "hold 1 pass", "rest 5 pass ip", "idle 1 2 3 4",
		// No name.
		"class A 1 ip", "class aB 1 ip", "class 1a 1 ip", "class a-b 1 ip", "class a_b 1 ip", "class a, 1 ip", "class (a) 1 ip", "class a1234567890123456 1 ip", "class abcdefghijklmnopq 1 ip", "class é 1 ip", "class a\r 1 ip", "class \r 1 ip", "class 1 1 ip",
		// No depth, no number, and none that may be.
		"class a 0 ip", "class a 1025 ip", "class a 01 ip", "class a 00 ip", "class a -1 ip", "class a +1 ip", "class a 1.0 ip", "class a x ip", "class a ip", "class a ip udp", "class a (1) ip", "class a 1(ip)", "class a 1\rip", "class a 4294967297 ip", "class a b 1 ip", "class a 0x1 ip",
		"rest 0", "rest 1025", "rest 05", "rest -1", "rest x", "rest 4294967297", "rest 5;", "rest 5\r", "rest five", "rest (5)",
		"idle -1", "idle 4294967296", "idle 05", "idle 00", "idle x", "idle 1s", "idle 0x1", "idle 1\r", "most -1", "most 4294967296", "most 05", "most x", "most 18446744073709551616",
		"hold 65", "hold 100", "hold -1", "hold 00", "hold 064", "hold x", "hold 4294967296", "hold 4294967297",
	}
}

// A line ends at its remark: what stands in that is neither a word nor a fault.
func TestRemarkEndsLine(t *testing.T) {
	for _, s := range []string{"#", "# fly", "#fly", "## pass (", " #", "\t# rest", "#\r", "#\xff\x00", "# rest 1 # rest 2"} {
		sayJust(t, api.Policy{Rest: 16}, s, s+"\n", "\n"+s)
		sayJust(t, api.Policy{Rest: 5}, "rest 5"+s, "rest 5 "+s, "rest 5"+s+"\n")
		sayJust(t, api.Policy{Pass: list(word(api.OfIP)), Rest: 16}, "pass ip"+s, "pass ip "+s+"\n")
		refuses(t, "rest "+s, 1, 0, api.ErrPolicyLine)
		refuses(t, "class a"+s, 1, 0, api.ErrPolicyLine)
	}
	for _, s := range []string{"rest #5", "rest# 5", "re#st 5", "r#", "idle 1 2#", "class #a 1 ip", "class a #1 ip", "fly#", "class a 0#1 ip", "hold 6 5 # 6"} {
		refuses(t, s, 1, 0, api.ErrPolicyLine)
	}
	sayJust(t, api.Policy{Rest: 1}, "rest 1#6", "rest 1#024", "rest 1 # 2 3")
	refuses(t, "class a 1#ip", 1, 9, api.ErrParseEnd)
	refuses(t, "pass#ip", 1, 4, api.ErrParseEnd)
	refuses(t, "pass ip and#udp", 1, 11, api.ErrParseEnd)
	refuses(t, "pass ip ip#", 1, 8, api.ErrParseToken)
}

// A line without its filter: parse finds the end, at the end of the line's text without the remark.
func TestNoFilter(t *testing.T) {
	for _, x := range []struct {
		s     string
		place int
	}{
		{"pass", 4}, {"active", 6}, {"demand", 6}, {"class a 1", 9}, {"class abcdefghijklmnop 1024", 27},
		{" pass", 5}, {"\t \tactive", 9}, {"  class  a  1", 13},
	} {
		for _, blanks := range []string{"", " ", "\t", " \t  "} {
			for _, remark := range []string{"", "#", "# ip", "#ip # udp"} {
				for _, behind := range []string{"", "\n", "\nip\n", "\nfly\npass ip"} {
					refuses(t, x.s+blanks+remark+behind, 1, x.place+len(blanks), api.ErrParseEnd)
					refuses(t, "idle 5\n\n"+x.s+blanks+remark+behind, 3, x.place+len(blanks), api.ErrParseEnd)
				}
			}
		}
		// A byte 13 divides no words, but is a blank of sources.
		refuses(t, x.s+" \r", 1, x.place+2, api.ErrParseEnd)
		refuses(t, x.s+"\t\r ", 1, x.place+3, api.ErrParseEnd)
	}
}

// The places of faults in filters, told by hand.
func TestPlacesInLines(t *testing.T) {
	for _, x := range []struct {
		s     string
		place int
		e     api.Errno
	}{
		{"pass ip and", 11, api.ErrParseEnd}, {"pass ip and  # so", 13, api.ErrParseEnd}, {"pass ip udp", 8, api.ErrParseToken}, {"pass foo", 5, api.ErrParseToken}, {"pass pass ip", 5, api.ErrParseToken}, {"active ip;", 9, api.ErrLexByte}, {"active IP", 7, api.ErrLexByte}, {"pass \xff", 5, api.ErrLexByte}, {"pass ip\x00", 7, api.ErrLexByte},
		{"demand host 1.2", 12, api.ErrParseAddr}, {"demand host ip", 12, api.ErrParseToken}, {"demand host", 11, api.ErrParseEnd}, {"pass len > 007", 11, api.ErrLexNumber}, {"pass 4294967296 > len", 5, api.ErrLexNumber}, {"pass )", 5, api.ErrParseToken}, {"pass (ip", 8, api.ErrParseEnd},
		{"class a 5 port 70000", 10, api.ErrTypeRange}, {"class a 5 ip;", 12, api.ErrLexByte}, {"class a 5 ip udp", 13, api.ErrParseToken}, {"class a 5 len", 10, api.ErrTypeBool}, {"class a 5 6 ip", 12, api.ErrParseToken}, {"class a 5 6", 10, api.ErrTypeBool},
		{"pass len", 5, api.ErrTypeBool}, {"pass   ip or 5", 10, api.ErrTypeBool}, {"pass not 5", 5, api.ErrTypeBool}, {"pass ip + 1 = 2", 8, api.ErrTypeNumber}, {"pass len / (1-1) = 0", 9, api.ErrTypeZero}, {"pass ip[0:3] = 1", 5, api.ErrTypeRange}, {"pass ip and proto 65536", 12, api.ErrTypeRange}, {"pass ip and net 10.0.0.1/8", 12, api.ErrTypeHost}, {"pass 1 + 2", 7, api.ErrTypeBool},
		{"pass " + tooHeavy(), 5 + placeOfWeight(), api.ErrTypeWeight}, {"pass " + strings.Repeat("!", 201) + "ip", 205, api.ErrParseDeep}, {"class a 1 " + strings.Repeat("(", 201) + "ip" + strings.Repeat(")", 201), 210, api.ErrParseDeep},
	} {
		refuses(t, x.s, 1, x.place, x.e)
		refuses(t, x.s+"\n", 1, x.place, x.e)
		refuses(t, "\n\n#\nidle 1\n"+x.s+"\nfly", 5, x.place, x.e)
		if !strings.HasSuffix(x.s, "# so") && x.e != api.ErrParseEnd {
			refuses(t, x.s+" \t# so", 1, x.place, x.e)
		}
		blanks := " \t  "
		refuses(t, blanks+x.s, 1, len(blanks)+x.place, x.e)
	}
}

// placeOfWeight tells the place in tooHeavy of the first node that is too much: 12 of a word and 1 of an or, so that 13 n + 12 words come first to more than 3000 with the 231st word.
func placeOfWeight() int { return 230 * len("ip or ") }

// wrongFilters tells sources that parse, lex or types refuse.
func wrongFilters() []string {
	return []string{
		"", " ", "\t", "ip and", "ip udp", "ppp", "host 1.2.3", "host ip", "1 < 2 < 3", "mp[0]=1", "tcp src host 1.2.3.4", "foo", "a$", "1 007 = 1", "12ab = 1", "0x = 1", "ip or A", "dead:: = 1", "1. = 1", "(", ")", "ip)", "((ip)", "not", "!", "not not", "ip[", "ip[2", "ip[2:", "ip[2:2", "port", "portrange 1", "portrange 1-", "net 1.2.3.4", "net 1.2.3.4/", "proto", "ip proto", "src", "src ip", "net 1.2.3/8",
		"len", "5", "-5", "1 + 2", "ip + 1 = 2", "not 5", "ip = 1", "1 % 0 = 1 or ip", "len / (2 - 2) = 0", "ip[0:3] = 1", "ip[0:0] = 1", "port 70000", "portrange 9-1", "net 10.0.0.1/8", "net 0.0.0.0/33", "net ::/129", "net ::1/127", "proto 65536", "ip proto 256", "ip and 5", "5 and ip", "ip or len", "ip[udp] = 1", "-ip = 1", "tcp and (len)", "ip and not (1 + 1)", tooHeavy(), "(" + tooHeavy() + ")",
		strings.Repeat("!", 201) + "ip", strings.Repeat("(", 201) + "ip", "len = " + strings.Repeat("-", 201) + "1", "ip\x00", "\xff", "ip é", "ip;", "ip and\runknown", "pass ip", "class a 1 ip", "rest 5",
	}
}

// Wherever a filter stands in a line: the place is that of the filter's error, with what stands ahead of it.
func TestPlacesOfFilters(t *testing.T) {
	for _, s := range wrongFilters() {
		tree, places, place, e := parse.Parse(s)
		if e == api.OK {
			node, why := types.Check(tree)
			place, e = places[node], why
		}
		if e == api.OK {
			t.Fatalf("%q is a filter", s)
		}
		for _, head := range []string{"pass", "active", "demand", "class a 1", "class abcdefghijklmnop 1024", "  pass", "\t\tactive", "class\t \tb   7"} {
			for _, blanks := range []string{" ", "\t", "  \t\t  "} {
				ahead := head + blanks
				refuses(t, ahead+s, 1, len(ahead)+place, e)
				refuses(t, ahead+s+"#", 1, len(ahead)+place, e)
				refuses(t, "rest 5\n\n"+ahead+s+"# ip\nhold 5", 3, len(ahead)+place, e)
			}
		}
	}
}

// Such a line stood ahead already: as often as one likes, whatever both say, and whatever stands between them.
func TestTwice(t *testing.T) {
	groups := [][]string{
		{"pass ip", "pass udp", "pass ip # so"}, {"active ip", "active not ip"}, {"demand ip", " demand\tip"},
		{"class a 1 ip", "class a 2 udp", "class  a 1 ip"}, {"class b 1 ip", "class b 1 ip"},
		{"rest 16", "rest 1", "rest 16#"}, {"idle 0", "idle 1", "idle 0"}, {"most 0", "most 4294967295"}, {"hold 0", "hold 64", "hold 0"},
	}
	for _, group := range groups {
		for _, first := range group {
			for _, second := range group {
				refuses(t, first+"\n"+second, 2, 0, api.ErrPolicyTwice)
				refuses(t, lines("", first, "", "# so", second, first), 5, 0, api.ErrPolicyTwice)
			}
		}
	}
	for i, group := range groups {
		for j, other := range groups {
			if i == j {
				continue
			}
			says(t, lines(group[0], other[0]))
			refuses(t, lines(group[0], other[0], group[0]), 3, 0, api.ErrPolicyTwice)
			refuses(t, lines(other[0], group[0], group[0], other[0]), 3, 0, api.ErrPolicyTwice)
		}
	}
	says(t, lines("class a 1 ip", "class aa 1 ip", "class a1 1 ip", "class pass 1 ip", "pass ip", "class rest 1 ip", "rest 1", "class class 1 ip"))
}

// Where a line has several faults, the first of the chapter's order stands.
func TestFirstFaultOfALine(t *testing.T) {
	sixteen := lines(manyClasses(16)...)
	for _, x := range []struct {
		ahead, line string
		place       int
		e           api.Errno
	}{
		// What is wrong with its words stands ahead of its standing there twice.
		{"rest 1\n", "rest x", 0, api.ErrPolicyLine}, {"rest 1\n", "rest", 0, api.ErrPolicyLine}, {"rest 1\n", "rest 1 1", 0, api.ErrPolicyLine}, {"hold 1\n", "hold 65", 0, api.ErrPolicyLine}, {"idle 1\n", "idle 05", 0, api.ErrPolicyLine}, {"most 1\n", "most", 0, api.ErrPolicyLine}, {"class a 1 ip\n", "class a 0 ip", 0, api.ErrPolicyLine}, {"class a 1 ip\n", "class a", 0, api.ErrPolicyLine}, {"class a 1 ip\n", "class a 0 (", 0, api.ErrPolicyLine},
		// And ahead of one class too many.
		{sixteen, "class z 0 ip", 0, api.ErrPolicyLine}, {sixteen, "class Z 1 ip", 0, api.ErrPolicyLine}, {sixteen, "class", 0, api.ErrPolicyLine}, {sixteen, "class c0 0 ip", 0, api.ErrPolicyLine}, {sixteen, "class z", 0, api.ErrPolicyLine}, {sixteen, "class z 1025 (", 0, api.ErrPolicyLine},
		// And ahead of the filter's.
		{"", "class a 0 (", 0, api.ErrPolicyLine}, {"", "class A 1 (", 0, api.ErrPolicyLine}, {"", "class a x", 0, api.ErrPolicyLine}, {"", "fly (", 0, api.ErrPolicyLine}, {"", "class 1 a ;", 0, api.ErrPolicyLine},
		// Its standing there twice: ahead of one class too many, and of the filter's.
		{sixteen, "class c0 1 ip", 0, api.ErrPolicyTwice}, {sixteen, "class c15 1 (", 0, api.ErrPolicyTwice}, {sixteen, "class c7 1024", 0, api.ErrPolicyTwice}, {"pass ip\n", "pass (", 0, api.ErrPolicyTwice}, {"pass ip\n", "pass", 0, api.ErrPolicyTwice}, {"active ip\n", "active len", 0, api.ErrPolicyTwice}, {"demand ip\n", "demand ;", 0, api.ErrPolicyTwice}, {"class a 1 ip\n", "class a 2 (", 0, api.ErrPolicyTwice}, {"class a 1 ip\n", "class a 2", 0, api.ErrPolicyTwice},
		// One class too many: ahead of the filter's.
		{sixteen, "class z 1 (", 0, api.ErrPolicyMany}, {sixteen, "class z 1", 0, api.ErrPolicyMany}, {sixteen, "class z 1 len", 0, api.ErrPolicyMany}, {sixteen, "class z 1 ;", 0, api.ErrPolicyMany},
		// Of the filter's, lex's ahead of parse's, and parse's ahead of types'.
		{"", "pass ip udp;", 11, api.ErrLexByte}, {"", "pass ( 007", 7, api.ErrLexNumber}, {"", "pass not 5 (", 11, api.ErrParseToken}, {"", "pass port 70000 or", 18, api.ErrParseEnd}, {"", "pass ip = 1 or A", 15, api.ErrLexByte}, {"", "class a 1 host 1.2 ;", 19, api.ErrLexByte},
		// And of types' the first node's.
		{"", "pass not 5 or port 70000", 5, api.ErrTypeBool}, {"", "pass port 70000 or not 5", 5, api.ErrTypeRange}, {"", "pass len or not 5", 12, api.ErrTypeBool},
	} {
		number := strings.Count(x.ahead, "\n") + 1
		refuses(t, x.ahead+x.line, number, x.place, x.e)
		refuses(t, x.ahead+x.line+"\nfly\n", number, x.place, x.e)
		refuses(t, x.ahead+"\n \t# so\n"+x.line, number+2, x.place, x.e)
		// In the first line that is too many nothing else counts.
		padded := x.ahead + strings.Repeat("\n", 257-number) + x.line
		refuses(t, padded, 257, 0, api.ErrPolicyMany)
		refuses(t, padded[:len(x.ahead)]+padded[len(x.ahead)+1:], 256, x.place, x.e)
	}
}

// Of two lines with faults the first one decides, whatever the faults are.
func TestFirstLineOfTwo(t *testing.T) {
	faults := []struct {
		line  string // wrong behind `idle 1` and `class a 1 ip`
		place int
		e     api.Errno
	}{
		{"fly", 0, api.ErrPolicyLine}, {"rest 0", 0, api.ErrPolicyLine}, {"class b 0 ip", 0, api.ErrPolicyLine}, {"idle 2", 0, api.ErrPolicyTwice}, {"class a 9 udp", 0, api.ErrPolicyTwice}, {"pass", 4, api.ErrParseEnd}, {"active ip ip", 10, api.ErrParseToken}, {"demand ;", 7, api.ErrLexByte}, {"class b 1 len", 10, api.ErrTypeBool},
	}
	for _, first := range faults {
		for _, second := range faults {
			refuses(t, lines("idle 1", "class a 1 ip", first.line, second.line), 3, first.place, first.e)
			refuses(t, lines("idle 1", "# so", "class a 1 ip", "", first.line, "most 1", second.line), 5, first.place, first.e)
			refuses(t, lines("idle 1", "class a 1 ip", first.line, second.line)+strings.Repeat("\n", 300), 3, first.place, first.e)
		}
	}
}

// A class that is refused does not stand there: nothing goes on behind a fault, so no line behind it is asked.
func TestNothingBehindAFault(t *testing.T) {
	refuses(t, lines("class a 1 (", "class a 1 ip"), 1, 11, api.ErrParseEnd)
	refuses(t, lines("pass", "pass ip"), 1, 4, api.ErrParseEnd)
	refuses(t, lines("rest 0", "rest 1", "rest 1"), 1, 0, api.ErrPolicyLine)
}
