package parse_test

import (
	"math/rand"
	"slices"
	"strings"
	"testing"

	"riddle/addr"
	"riddle/api"
	"riddle/lex"
	"riddle/parse"
)

// rule is one of the grammar: `<name>` stands for what the rules of that name make, all else for a token.
type rule struct {
	left  string
	right []string
}

// item is how far a rule is read, from the token numbered from on.
type item struct {
	rule, dot, from int
}

// recognizer goes along all the ways in which the grammar reads tokens, at once; sets[i] is where they stand behind i tokens.
type recognizer struct {
	rules []rule
	sets  [][]item
}

// grammar is that of the chapter, row by row.
func grammar() []rule {
	var rules []rule
	add := func(left string, rights ...string) {
		for _, right := range rights {
			rules = append(rules, rule{"<" + left + ">", strings.Fields(right)})
		}
	}
	row := func(left, stronger, signs string) {
		add(left, "<"+stronger+">")
		for _, sign := range strings.Fields(signs) {
			add(left, "<"+left+"> "+sign+" <"+stronger+">")
		}
	}
	add("filter", "<or> End")
	row("or", "and", "or ||")
	row("and", "not", "and &&")
	add("not", "not <not>", "! <not>", "<rel>")
	add("rel", "<bits>")
	for _, sign := range strings.Fields("= == != < <= > >=") {
		add("rel", "<bits> "+sign+" <bits>")
	}
	row("bits", "xors", "|")
	row("xors", "ands", "^")
	row("ands", "shifts", "&")
	row("shifts", "sums", "<< >>")
	row("sums", "products", "+ -")
	row("products", "minus", "* / %")
	add("minus", "- <minus>", "<part>")
	add("part", "Number", "len", "( <or> )", "inbound", "outbound", "proto Number", "ip proto Number", "ip6 proto Number")
	add("part", "<name> [ <or> ]", "<name> [ <or> : Number ]", "<word>")
	add("part", "host Address", "<side> host Address", "net Address / Number", "<side> net Address / Number")
	add("part", "<port>", "<side> <port>", "<carrier> <port>", "<carrier> <side> <port>")
	add("port", "port Number", "portrange Number - Number")
	add("carrier", "tcp", "udp")
	add("side", "src", "dst")
	for name, of := range names() {
		if of != api.OfMP {
			add("name", name)
		}
		if of != api.OfPPP {
			add("word", name)
		}
	}
	return rules
}

func newRecognizer() *recognizer {
	r := &recognizer{rules: grammar()}
	r.sets = [][]item{nil}
	for at, rule := range r.rules {
		if rule.left == "<filter>" {
			r.sets[0] = append(r.sets[0], item{rule: at})
		}
	}
	r.close()
	return r
}

// next tells what an item waits for, nothing if it is read whole.
func (r *recognizer) next(i item) string {
	if right := r.rules[i.rule].right; i.dot < len(right) {
		return right[i.dot]
	}
	return ""
}

// close adds to the last set what its items begin and end.
func (r *recognizer) close() {
	last := len(r.sets) - 1
	seen := map[item]bool{}
	for _, i := range r.sets[last] {
		seen[i] = true
	}
	add := func(i item) {
		if !seen[i] {
			seen[i] = true
			r.sets[last] = append(r.sets[last], i)
		}
	}
	for at := 0; at < len(r.sets[last]); at++ {
		i := r.sets[last][at]
		wanted := r.next(i)
		if wanted == "" {
			for _, waiting := range r.sets[i.from] {
				if r.next(waiting) == r.rules[i.rule].left {
					add(item{waiting.rule, waiting.dot + 1, waiting.from})
				}
			}
			continue
		}
		for number, rule := range r.rules {
			if rule.left == wanted {
				add(item{number, 0, last})
			}
		}
	}
}

// takes tells whether a token may come now.
func (r *recognizer) takes(what string) bool {
	return slices.ContainsFunc(r.sets[len(r.sets)-1], func(i item) bool { return r.next(i) == what })
}

func (r *recognizer) read(what string) {
	var moved []item
	for _, i := range r.sets[len(r.sets)-1] {
		if r.next(i) == what {
			moved = append(moved, item{i.rule, i.dot + 1, i.from})
		}
	}
	r.sets = append(r.sets, moved)
	r.close()
}

func (r *recognizer) back() { r.sets = r.sets[:len(r.sets)-1] }

// asTerminal tells what the grammar calls a token; an address that addr does not take is Wrong, which stands in no rule.
func asTerminal(t *testing.T, text string) string {
	tokens, _, e := lex.Lex(text)
	if e != api.OK || len(tokens) != 2 {
		t.Fatalf("%q is no token", text)
	}
	switch tokens[0].Kind {
	case api.TokNumber:
		return "Number"
	case api.TokQuad:
		_, e = addr.Parse4(text)
	case api.TokSix:
		_, e = addr.Parse6(text)
	default:
		return text
	}
	if e != api.OK {
		return "Wrong"
	}
	return "Address"
}

// wants tells the error of a source that ends behind a token, or with one that can't be read.
func (r *recognizer) wants(what string) api.Errno {
	switch {
	case r.takes(what):
		return api.OK
	case what == "End":
		return api.ErrParseEnd
	case what == "Wrong" && r.takes("Address"):
		return api.ErrParseAddr
	}
	return api.ErrParseToken
}

// asks holds a source to the error, and its place, that the recognizer finds.
func asks(t *testing.T, s string, place int, e api.Errno) {
	t.Helper()
	if e != api.OK {
		refuses(t, s, place, e)
		return
	}
	tree, at, got, err := parse.Parse(s)
	if err != api.OK || got != 0 || len(tree) == 0 || len(at) != len(tree) {
		t.Errorf("P11.1: %q: %d, %d; the grammar takes it", s, got, err)
	}
}

// tryAll puts each token behind each beginning that the grammar takes, to so many tokens.
func tryAll(t *testing.T, r *recognizer, ahead string, terminals map[string]string, alphabet []string, depth int) {
	for _, text := range alphabet {
		what := terminals[text]
		s := ahead + text
		if e := r.wants(what); e != api.OK {
			asks(t, s, len(ahead), e)
			continue
		}
		r.read(what)
		asks(t, s, len(s), r.wants("End"))
		if depth > 1 {
			tryAll(t, r, s+" ", terminals, alphabet, depth-1)
		}
		r.back()
	}
}

func terminalsOf(t *testing.T, alphabet []string) map[string]string {
	out := map[string]string{}
	for _, text := range alphabet {
		out[text] = asTerminal(t, text)
	}
	return out
}

// everyToken has every sign and word of the grammar, and some of each other kind.
func everyToken() []string {
	out := strings.Fields("0 0xff 70000 1.2.3.4 1.2.3 1. fe80::1 :: 1:2:3 foo a len inbound outbound proto src dst host net port portrange and or not " +
		"( ) [ ] : ! = == != < <= > >= | || ^ & && << >> + - * / %")
	for name := range names() {
		out = append(out, name)
	}
	slices.Sort(out)
	return out
}

func TestEveryTokenBehindEveryBeginning(t *testing.T) {
	all := everyToken()
	tryAll(t, newRecognizer(), "", terminalsOf(t, all), all, 3)
	some := strings.Fields("7 ::1 1.2 len ip tcp ppp mp src host net port portrange proto ( ) [ ] : not - / = and foo")
	tryAll(t, newRecognizer(), "", terminalsOf(t, some), some, 5)
}

// Long rows of tokens, nearly all of which may stand where they do.
func TestRowsOfTokens(t *testing.T) {
	chance := rand.New(rand.NewSource(11))
	all := everyToken()
	terminals := terminalsOf(t, all)
	for range 1500 {
		r := newRecognizer()
		s, place, e := "", 0, api.OK
		for range 1 + chance.Intn(40) {
			text := all[chance.Intn(len(all))]
			for chance.Intn(60) > 0 && !r.takes(terminals[text]) {
				text = all[chance.Intn(len(all))]
			}
			place = len(s)
			s += text + " "
			if e = r.wants(terminals[text]); e != api.OK {
				break
			}
			r.read(terminals[text])
		}
		if e == api.OK {
			place, e = len(s), r.wants("End")
		}
		asks(t, s, place, e)
	}
}
