package parse_test

import (
	"strings"
	"testing"

	"riddle/api"
	"riddle/parse"
)

// opener is what opens one more: its text, how far into it the token stands that counts, what ends it, and how many nodes it makes.
type opener struct {
	text  string
	at    int
	end   string
	nodes int
}

func openers() []opener {
	return []opener{{"(", 0, ")", 0}, {"ip[", 2, "]", 1}, {"ip6cp [", 6, ":2]", 1}, {"not ", 0, "", 1}, {"!", 0, "", 1}, {"-", 0, "", 1}}
}

// takes holds a source to be a tree of so many nodes.
func takes(t *testing.T, s string, count int) {
	t.Helper()
	tree, at, place, e := parse.Parse(s)
	if e != api.OK || place != 0 || len(tree) != count || len(at) != count {
		t.Errorf("P11.1: %.80q: %d nodes, %d places, %d, %d; want %d", s, len(tree), len(at), place, e, count)
	}
}

func TestEachAsDeepAsMayBe(t *testing.T) {
	for _, o := range openers() {
		many := func(n int) (string, string) { return strings.Repeat(o.text, n), strings.Repeat(o.end, n) }
		ahead, behind := many(api.MaxNest)
		takes(t, ahead+"7"+behind, o.nodes*api.MaxNest+1)
		for _, inside := range []string{"", "7", "7" + behind, "7" + behind + o.end, "foo", "host 1.2.3", ")"} {
			refuses(t, ahead+o.text+inside, len(ahead)+o.at, api.ErrParseDeep)
		}
		refuses(t, ahead+"-7"+behind, len(ahead), api.ErrParseDeep)
		refuses(t, ahead+"(7)"+behind, len(ahead), api.ErrParseDeep)
		refuses(t, ahead+"ip[7]"+behind, len(ahead)+2, api.ErrParseDeep)
		if o.text != "-" {
			refuses(t, ahead+"!7"+behind, len(ahead), api.ErrParseDeep)
			refuses(t, ahead+"not 7"+behind, len(ahead), api.ErrParseDeep)
		}
		ahead, behind = many(api.MaxNest - 1)
		takes(t, ahead+"(7)"+behind, o.nodes*(api.MaxNest-1)+1)
		takes(t, ahead+"-7"+behind, o.nodes*(api.MaxNest-1)+2)
		takes(t, ahead+"ip[7]"+behind, o.nodes*(api.MaxNest-1)+2)
		refuses(t, ahead+"--7"+behind, len(ahead)+1, api.ErrParseDeep)
		refuses(t, ahead+"(-7)"+behind, len(ahead)+1, api.ErrParseDeep)
		refuses(t, ahead+"-(7)"+behind, len(ahead)+1, api.ErrParseDeep)
		refuses(t, ahead+"ip[-7]"+behind, len(ahead)+3, api.ErrParseDeep)
		refuses(t, ahead+"-ip[7]"+behind, len(ahead)+3, api.ErrParseDeep)
	}
}

func TestMixedAsDeepAsMayBe(t *testing.T) {
	for _, order := range [][]opener{
		{{"(", 0, ")", 0}, {"!", 0, "", 1}},
		{{"(", 0, ")", 0}, {"not ", 0, "", 1}, {"ip[", 2, "]", 1}, {"-", 0, "", 1}},
		{{"ip[", 2, "]", 1}, {"-", 0, "", 1}, {"(", 0, ")", 0}},
		{{"!", 0, "", 1}, {"not ", 0, "", 1}, {"-", 0, "", 1}, {"tcp[", 3, ":4]", 1}},
	} {
		ahead, behind, count := "", "", 1
		for i := range api.MaxNest {
			o := order[i%len(order)]
			ahead, behind = ahead+o.text, o.end+behind
			count += o.nodes
		}
		takes(t, ahead+"7"+behind, count)
		o := order[api.MaxNest%len(order)]
		refuses(t, ahead+o.text+"7"+o.end+behind, len(ahead)+o.at, api.ErrParseDeep)
		refuses(t, ahead+o.text, len(ahead)+o.at, api.ErrParseDeep)
	}
	refuses(t, strings.Repeat("(", 100)+strings.Repeat("!", 100)+"-1", 200, api.ErrParseDeep)
	takes(t, strings.Repeat("(", 100)+strings.Repeat("!", 99)+"-1"+strings.Repeat(")", 100), 101)
}

// What has come to its end is open no more.
func TestOpenNoMore(t *testing.T) {
	many := strings.Repeat
	takes(t, many("(ip) and ", 300)+"ip", 601)
	takes(t, many("(ip) and ", 300)+many("not ", 200)+"ip", 801)
	takes(t, many("!ip||", 500)+many("(", 200)+"ip"+many(")", 200), 1501)
	takes(t, many("-1+", 500)+many("-", 200)+"1", 1701)
	takes(t, many("ip[0]+", 500)+many("ip[", 200)+"0"+many("]", 200), 1701)
	takes(t, many("((ip))or", 1000)+" ip", 2001)
	for _, o := range openers() {
		deep := many(o.text, api.MaxNest) + "7" + many(o.end, api.MaxNest)
		one := o.nodes*api.MaxNest + 1
		takes(t, deep+" and "+deep, 2*one+1)
		takes(t, deep+" or "+deep+" or "+deep, 3*one+2)
		refuses(t, deep+" and "+many(o.text, api.MaxNest+1), len(deep)+5+api.MaxNest*len(o.text)+o.at, api.ErrParseDeep)
	}

	// Inside the last one that may be open, one behind the other.
	inner, outer := many("(", 199), many(")", 199)
	takes(t, inner+"-1 + -2 = -3"+outer, 8)
	takes(t, inner+"(1) + (2) = (3)"+outer, 5)
	takes(t, inner+"ip[1] + ip[2:2] = ip[3]"+outer, 8)
	takes(t, inner+"not ip and !ip or not ip"+outer, 8)
	takes(t, inner+"not ip or (ip) or -1 = ip[1]"+outer, 10)
	refuses(t, inner+"not ip and !(ip)"+outer, 199+12, api.ErrParseDeep)

	// A not is open till the end of the comparison that it denies, a minus till that of its part.
	nots := many("!", 199)
	takes(t, nots+"-1<-2", 199+5)
	refuses(t, nots+"!1<-2", 202, api.ErrParseDeep)
	refuses(t, nots+"!1+(2)", 202, api.ErrParseDeep)
	refuses(t, nots+"!1|ip[2]", 204, api.ErrParseDeep)
	takes(t, nots+"!1 and -2", 200+4)
	takes(t, nots+"!1 or not (2)", 200+4)
	minuses := many("-", 199)
	takes(t, minuses+"-1 - -2", 200+4)
	takes(t, minuses+"-1*(2)", 200+3)
	refuses(t, minuses+"-(2)", 200, api.ErrParseDeep)

	// A size stands within the bracket, and what is behind the bracket does not.
	takes(t, many("ip[", 200)+"0"+many(":2]", 200)+" = -1", 201+3)
	takes(t, inner+"ip[0:2]"+outer+"+(1)", 4)
}

// A binary minus opens nothing, however many there are, nor does != or a word.
func TestWhatOpensNothing(t *testing.T) {
	many := strings.Repeat
	takes(t, "1"+many("-1", 1000), 2001)
	takes(t, many("(", 200)+"1-1!=2"+many(")", 200), 5)
	takes(t, many("(", 200)+"portrange 1-2"+many(")", 200), 1)
	takes(t, many("(", 200)+"net ::/1 and tcp src port 5 or ip proto 6"+many(")", 200), 5)
}

func TestLongSources(t *testing.T) {
	many := strings.Repeat
	takes(t, "ip"+many(" or ip", (api.MaxSource-2)/6), 2*((api.MaxSource-2)/6)+1)
	takes(t, "1"+many("+1", (api.MaxSource-1)/2), 2*((api.MaxSource-1)/2)+1)
	takes(t, many("(1)*", api.MaxSource/4-1)+"(-1)", 2*(api.MaxSource/4))
	takes(t, many(" ", api.MaxSource-3)+"len", 1)
	takes(t, "len"+many("\n", api.MaxSource-3), 1)
	refuses(t, many("(", api.MaxSource), 200, api.ErrParseDeep)
	refuses(t, many("!", api.MaxSource), 200, api.ErrParseDeep)
	refuses(t, many("-", api.MaxSource), 200, api.ErrParseDeep)
	refuses(t, many("ip[", api.MaxSource/3), 602, api.ErrParseDeep)
	refuses(t, many("1+", api.MaxSource/2), api.MaxSource, api.ErrParseEnd)
	refuses(t, many("ip or ", (api.MaxSource)/6)+"foo", api.MaxSource/6*6, api.ErrParseToken)
	refuses(t, many("ip or ", api.MaxSource), 0, api.ErrLexLong)
}
