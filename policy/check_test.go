package policy_test

import (
	"math"
	"slices"
	"strings"
	"testing"

	"riddle/api"
	"riddle/show"
)

// good is a policy that may be, with something in each field.
func good(t testing.TB) api.Policy {
	t.Helper()
	return api.Policy{
		Pass: treeOf(t, "ip or ip6"), Active: treeOf(t, "not lcp"), Demand: treeOf(t, "outbound and ip"),
		Classes: []api.Class{class(t, "voice", 8, "udp port 5060"), class(t, "b2", 20, "tcp")},
		Rest:    7, Idle: 30, Most: 3600, Hold: 5,
	}
}

// turned is a good policy with something turned.
func turned(t testing.TB, turn func(p *api.Policy)) api.Policy {
	t.Helper()
	p := good(t)
	turn(&p)
	return p
}

func TestMayBe(t *testing.T) {
	may(t, "all there is", good(t))
	may(t, "the least", api.Policy{Rest: 1})
	may(t, "empty lists", api.Policy{Pass: []api.Node{}, Active: []api.Node{}, Demand: []api.Node{}, Classes: []api.Class{}, Rest: 1})
	may(t, "no classes", turned(t, func(p *api.Policy) { p.Classes = nil }))
	may(t, "one filter alone", api.Policy{Demand: treeOf(t, "ip"), Rest: 1})
	may(t, "the same filter everywhere", turned(t, func(p *api.Policy) {
		p.Active, p.Demand, p.Classes[0].Tree, p.Classes[1].Tree = p.Pass, p.Pass, p.Pass, p.Pass
	}))
	mayNot(t, "nothing at all", api.Policy{}, api.ErrPolicyWrong)
}

// numbers tells numbers around the bounds first and last, with those that may be, and with others far off.
func numbers(first, last int) (fit, unfit []int) {
	return []int{first, first + 1, (first + last) / 2, last - 1, last},
		[]int{first - 1, first - 2, last + 1, last + 2, -last, math.MinInt, math.MaxInt, 1 << 16, 1<<32 + first, 1<<32 + last, -1 << 32, 1<<63 - 1 - last}
}

func TestNumbersOfAPolicy(t *testing.T) {
	for _, x := range []struct {
		what        string
		first, last int
		set         func(p *api.Policy, n int)
	}{
		{"rest", 1, 1024, func(p *api.Policy, n int) { p.Rest = n }},
		{"hold", 0, 64, func(p *api.Policy, n int) { p.Hold = n }},
		{"depth of the first class", 1, 1024, func(p *api.Policy, n int) { p.Classes[0].Depth = n }},
		{"depth of the last class", 1, 1024, func(p *api.Policy, n int) { p.Classes[1].Depth = n }},
	} {
		fit, unfit := numbers(x.first, x.last)
		for _, n := range fit {
			may(t, []any{x.what, n}, turned(t, func(p *api.Policy) { x.set(p, n) }))
		}
		for _, n := range unfit {
			mayNot(t, []any{x.what, n}, turned(t, func(p *api.Policy) { x.set(p, n) }), api.ErrPolicyWrong)
		}
	}
	for _, n := range []uint32{0, 1, 9, 10, 65536, 1<<31 - 1, 1 << 31, 1<<32 - 1} {
		may(t, []any{"idle", n}, turned(t, func(p *api.Policy) { p.Idle = n }))
		may(t, []any{"most", n}, turned(t, func(p *api.Policy) { p.Most = n }))
	}
}

// names tells names, and texts that are none.
func names() (fit, unfit []string) {
	fit = []string{"a", "z", "az", "a0", "z9", "q1w2", "abcdefghijklmnop", "a123456789012345", "pass", "class", "ip", "not"}
	unfit = []string{"", " ", "0", "9a", "1", "A", "aB", "a-b", "a_b", "a.b", "_", "a b", " a", "a ", "a\tb", "a\n", "a#", "é", "aé", "a\x00", "\xff", "abcdefghijklmnopq", "a1234567890123456", strings.Repeat("a", 1000)}
	for c := range 256 {
		digit, letter := c >= '0' && c <= '9', c >= 'a' && c <= 'z'
		if letter {
			fit = append(fit, string([]byte{byte(c)}))
		} else {
			unfit = append(unfit, string([]byte{byte(c)}), string([]byte{byte(c), 'a'}))
		}
		for _, behind := range []string{"", "b", "34567890123456"} {
			name := string([]byte{'a', byte(c)}) + behind
			if letter || digit {
				fit = append(fit, name)
			} else {
				unfit = append(unfit, name)
			}
		}
		if last := "a12345678901234" + string([]byte{byte(c)}); letter || digit {
			fit = append(fit, last)
		} else {
			unfit = append(unfit, last)
		}
	}
	return fit, unfit
}

func TestNamesOfClasses(t *testing.T) {
	fit, unfit := names()
	for _, name := range fit {
		may(t, []string{"first", name}, turned(t, func(p *api.Policy) { p.Classes[0].Name = name }))
		may(t, []string{"last", name}, turned(t, func(p *api.Policy) { p.Classes[1].Name = name }))
	}
	for _, name := range unfit {
		mayNot(t, []string{"first", name}, turned(t, func(p *api.Policy) { p.Classes[0].Name = name }), api.ErrPolicyWrong)
		mayNot(t, []string{"last", name}, turned(t, func(p *api.Policy) { p.Classes[1].Name = name }), api.ErrPolicyWrong)
	}
}

// Each two classes have different names, whatever else is different in them.
func TestNamesTwice(t *testing.T) {
	full := api.Policy{Rest: 1, Classes: says(t, lines(manyClasses(16)...)).Classes}
	may(t, "sixteen names", full)
	for i := range full.Classes {
		for j := range i {
			p := copied(full)
			p.Classes[i].Name = p.Classes[j].Name
			mayNot(t, []int{j, i}, p, api.ErrPolicyWrong)
		}
	}
	for _, pair := range [][2]string{{"a", "aa"}, {"a1", "a2"}, {"abcdefghijklmnop", "abcdefghijklmnoq"}, {"abcdefghijklmno", "abcdefghijklmnop"}} {
		may(t, pair, turned(t, func(p *api.Policy) { p.Classes[0].Name, p.Classes[1].Name = pair[0], pair[1] }))
	}
}

// noFilters tells trees of which none is a filter that show takes.
func noFilters(t testing.TB) [][]api.Node {
	t.Helper()
	var out [][]api.Node
	for _, s := range []string{"len", "5", "ip + 1 = 2", "not 5", "ip = 1", "1 % 0 = 1", "ip[0:3] = 1", "port 70000", "portrange 9-1", "net 10.0.0.1/8", "proto 65536", tooHeavy()} {
		out = append(out, treeOf(t, s))
	}
	return append(out,
		list(kind(0)), list(kind(99)), list(kind(-1)), list(kind(api.NodeAnd)), list(word(api.OfIP), word(api.OfIP)), list(word(api.OfIP), number(1)),
		list(api.Node{Kind: api.NodeWord, Of: api.OfIP, N: 1}), list(word(api.OfPPP)), list(word(14)), tooDeep())
}

// tooHeavy is a source that types refuses for its weight.
func tooHeavy() string { return strings.Repeat("ip or ", 250) + "ip" }

// nots is a tree of so many nots over a word.
func nots(count int) []api.Node {
	return append(list(word(api.OfIP)), slices.Repeat(list(kind(api.NodeNot)), count)...)
}

// tooDeep is a filter that show refuses for its depth.
func tooDeep() []api.Node { return nots(api.MaxNest + 1) }

func TestFiltersOfAPolicy(t *testing.T) {
	places := []func(p *api.Policy) *[]api.Node{
		func(p *api.Policy) *[]api.Node { return &p.Pass },
		func(p *api.Policy) *[]api.Node { return &p.Active },
		func(p *api.Policy) *[]api.Node { return &p.Demand },
		func(p *api.Policy) *[]api.Node { return &p.Classes[0].Tree },
		func(p *api.Policy) *[]api.Node { return &p.Classes[1].Tree },
	}
	for at, place := range places {
		for _, l := range noFilters(t) {
			mayNot(t, []any{at, l[:min(len(l), 9)]}, turned(t, func(p *api.Policy) { *place(p) = l }), api.ErrPolicyWrong)
		}
		for _, l := range [][]api.Node{nots(api.MaxNest), treeOf(t, flat()), treeOf(t, "net 10.0.0.0/8"), treeOf(t, "len / (len - len) = 0")} {
			may(t, []any{at, l[:min(len(l), 9)]}, turned(t, func(p *api.Policy) { *place(p) = l }))
		}
		none := turned(t, func(p *api.Policy) { *place(p) = nil })
		empty := turned(t, func(p *api.Policy) { *place(p) = []api.Node{} })
		if at < 3 {
			may(t, []any{at, "none"}, none)
			may(t, []any{at, "empty"}, empty)
		} else {
			mayNot(t, []any{at, "none"}, none, api.ErrPolicyWrong)
			mayNot(t, []any{at, "empty"}, empty, api.ErrPolicyWrong)
		}
	}
}

// flat is a source that show.Full refuses for its depth, and show.Show does not.
func flat() string { return strings.Repeat("ip or ", 202) + "ip" }

func TestFlatIsDeepInFull(t *testing.T) {
	if _, e := show.Full(treeOf(t, flat())); e != api.ErrShowDeep {
		t.Fatalf("no test of what show takes: %d", e)
	}
}

// More than MaxClasses classes count ahead of all that is wrong besides.
func TestManyClasses(t *testing.T) {
	full := says(t, lines(manyClasses(16)...))
	may(t, 16, full)
	for _, count := range []int{17, 18, 100, 5000} {
		p := copied(full)
		for len(p.Classes) < count {
			p.Classes = append(p.Classes, api.Class{Name: "z" + strings.Repeat("a", len(p.Classes)-16), Depth: 1, Tree: treeOf(t, "ip")})
		}
		mayNot(t, count, p, api.ErrPolicyMany)
		p.Classes[3].Name = p.Classes[2].Name
		mayNot(t, []any{count, "a name twice"}, p, api.ErrPolicyMany)
		p.Classes[0], p.Rest, p.Hold, p.Pass = api.Class{}, 0, -1, list(kind(0))
		mayNot(t, []any{count, "and others"}, p, api.ErrPolicyMany)
	}
	mayNot(t, "17 empty ones", api.Policy{Classes: make([]api.Class, 17)}, api.ErrPolicyMany)
	mayNot(t, "16 empty ones", api.Policy{Classes: make([]api.Class, 16), Rest: 1}, api.ErrPolicyWrong)
}

// Several things wrong are as wrong as one.
func TestWrongTwice(t *testing.T) {
	turns := []func(p *api.Policy){
		func(p *api.Policy) { p.Rest = 0 }, func(p *api.Policy) { p.Hold = 65 }, func(p *api.Policy) { p.Pass = list(kind(0)) },
		func(p *api.Policy) { p.Demand = tooDeep() }, func(p *api.Policy) { p.Classes[0].Depth = 0 }, func(p *api.Policy) { p.Classes[1].Name = "voice" },
	}
	for i, first := range turns {
		for j, second := range turns {
			mayNot(t, []int{i, j}, turned(t, func(p *api.Policy) {
				first(p)
				second(p)
			}), api.ErrPolicyWrong)
		}
	}
}

// A tree that is deeper or longer than any filter is refused like others.
func TestLargeTrees(t *testing.T) {
	for _, l := range [][]api.Node{nots(1<<16 - 1), slices.Repeat(list(word(api.OfIP)), 1<<20), slices.Repeat(list(word(api.OfIP), kind(api.NodeNot)), 1<<18)} {
		mayNot(t, len(l), turned(t, func(p *api.Policy) { p.Pass, p.Classes[1].Tree = l, l }), api.ErrPolicyWrong)
	}
}
