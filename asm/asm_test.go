package asm_test

import (
	"slices"
	"strconv"
	"strings"
	"testing"

	"riddle/api"
	"riddle/asm"
	"riddle/insn"
)

// form is a row of chapter 3's table: of an instruction of that code with Jt 11, Jf 12 and K 13, where the form shows them, the text.
type form struct {
	code           uint16
	text           string
	showsK, showsJ bool
}

func table() []form {
	const yes, no = true, false
	return []form{
		{api.LdImm, "ld #13", yes, no},
		{api.LdAbsW, "ld [13]", yes, no},
		{api.LdAbsH, "ldh [13]", yes, no},
		{api.LdAbsB, "ldb [13]", yes, no},
		{api.LdIndW, "ld [x+13]", yes, no},
		{api.LdIndH, "ldh [x+13]", yes, no},
		{api.LdIndB, "ldb [x+13]", yes, no},
		{api.LdMem, "ld M[13]", yes, no},
		{api.LdLen, "ld len", no, no},
		{api.LdxImm, "ldx #13", yes, no},
		{api.LdxMem, "ldx M[13]", yes, no},
		{api.LdxLen, "ldx len", no, no},
		{api.LdxMsh, "ldxb 4*([13]&15)", yes, no},
		{api.St, "st M[13]", yes, no},
		{api.Stx, "stx M[13]", yes, no},
		{api.AddK, "add #13", yes, no},
		{api.AddX, "add x", no, no},
		{api.SubK, "sub #13", yes, no},
		{api.SubX, "sub x", no, no},
		{api.MulK, "mul #13", yes, no},
		{api.MulX, "mul x", no, no},
		{api.DivK, "div #13", yes, no},
		{api.DivX, "div x", no, no},
		{api.OrK, "or #13", yes, no},
		{api.OrX, "or x", no, no},
		{api.AndK, "and #13", yes, no},
		{api.AndX, "and x", no, no},
		{api.LshK, "lsh #13", yes, no},
		{api.LshX, "lsh x", no, no},
		{api.RshK, "rsh #13", yes, no},
		{api.RshX, "rsh x", no, no},
		{api.Neg, "neg", no, no},
		{api.ModK, "mod #13", yes, no},
		{api.ModX, "mod x", no, no},
		{api.XorK, "xor #13", yes, no},
		{api.XorX, "xor x", no, no},
		{api.Ja, "ja 13", yes, no},
		{api.JeqK, "jeq #13 11 12", yes, yes},
		{api.JeqX, "jeq x 11 12", no, yes},
		{api.JgtK, "jgt #13 11 12", yes, yes},
		{api.JgtX, "jgt x 11 12", no, yes},
		{api.JgeK, "jge #13 11 12", yes, yes},
		{api.JgeX, "jge x 11 12", no, yes},
		{api.JsetK, "jset #13 11 12", yes, yes},
		{api.JsetX, "jset x 11 12", no, yes},
		{api.RetK, "ret #13", yes, no},
		{api.RetA, "ret a", no, no},
		{api.Tax, "tax", no, no},
		{api.Txa, "txa", no, no},
	}
}

// shown is the instruction that the row's text tells.
func (f form) shown() api.Insn {
	i := api.Insn{Code: f.code}
	if f.showsK {
		i.K = 13
	}
	if f.showsJ {
		i.Jt, i.Jf = 11, 12
	}
	return i
}

// raw is the text of an instruction that no form of its code holds.
func raw(i api.Insn) string {
	return "raw " + strconv.Itoa(int(i.Code)) + " " + strconv.Itoa(int(i.Jt)) + " " + strconv.Itoa(int(i.Jf)) + " " + strconv.FormatUint(uint64(i.K), 10)
}

// varied tells n instructions: each known code many times, its unshown numbers 0 or not; unknown codes among them.
func varied(n int) []api.Insn {
	known := table()
	p := make([]api.Insn, n)
	for at := range p {
		i := known[at%len(known)].shown()
		switch at / len(known) % 4 {
		case 1:
			i.Jt, i.Jf, i.K = uint8(at), uint8(at>>3), uint32(at)*2654435761
		case 2:
			i.Code = uint16(at * 40503)
		case 3:
			if i.K != 0 {
				i.K = uint32(at) * 40503001
			}
		}
		p[at] = i
	}
	return p
}

// print is Print where it must not refuse.
func print(t *testing.T, p []api.Insn) string {
	t.Helper()
	s, e := asm.Print(p...)
	if e != api.OK {
		t.Fatalf("P3.2: Print of %d instructions: error %d", len(p), e)
	}
	return s
}

// parse is Parse where it must not refuse.
func parse(t *testing.T, s string) []api.Insn {
	t.Helper()
	p, line, e := asm.Parse(s)
	if e != api.OK || line != 0 {
		t.Fatalf("P3.3: Parse of %d bytes: line %d, error %d", len(s), line, e)
	}
	return p
}

// refused fails, if Parse answers anything but that line and that error.
func refused(t *testing.T, s string, line int, want api.Errno) {
	t.Helper()
	p, n, e := asm.Parse(s)
	if e == want && n == line && len(p) == 0 {
		return
	}
	if len(s) > 60 {
		s = s[:60] + " and so on"
	}
	t.Errorf("P3.3: Parse(%q) = %d instructions, line %d, error %d; want line %d, error %d", s, len(p), n, e, line, want)
}

func TestTheTableHasEveryKnownCode(t *testing.T) {
	var codes []uint16
	for _, f := range table() {
		codes = append(codes, f.code)
	}
	slices.Sort(codes)
	if codes = slices.Compact(codes); len(codes) != 49 {
		t.Errorf("%d codes; want 49", len(codes))
	}
	for _, c := range codes {
		if !insn.Known(c) {
			t.Errorf("code %#x is not known", c)
		}
	}
}

func TestLineOfEachKnownCode(t *testing.T) {
	for _, f := range table() {
		if got := asm.Line(f.shown()); got != f.text {
			t.Errorf("P3.1: Line(%v) = %q; want %q", f.shown(), got, f.text)
		}
	}
}

func TestLineWithNumbersAtTheirEnds(t *testing.T) {
	for _, f := range table() {
		least, most := api.Insn{Code: f.code}, api.Insn{Code: f.code}
		lowest := strings.NewReplacer("11", "0", "12", "0", "13", "0")
		highest := strings.NewReplacer("11", "255", "12", "254", "13", "4294967295")
		if f.showsK {
			most.K = 4294967295
		}
		if f.showsJ {
			most.Jt, most.Jf = 255, 254
		}
		if got, want := asm.Line(least), lowest.Replace(f.text); got != want {
			t.Errorf("P3.1: Line(%v) = %q; want %q", least, got, want)
		}
		if got, want := asm.Line(most), highest.Replace(f.text); got != want {
			t.Errorf("P3.1: Line(%v) = %q; want %q", most, got, want)
		}
	}
}

func TestLineIsRawIfTheFormLeavesOutANumber(t *testing.T) {
	for _, f := range table() {
		var hidden []api.Insn
		if !f.showsK {
			for _, k := range []uint32{1, 256, 1 << 16, 1 << 31} {
				i := f.shown()
				i.K = k
				hidden = append(hidden, i)
			}
		}
		if !f.showsJ {
			for _, j := range []uint8{1, 128, 255} {
				yes, no, both := f.shown(), f.shown(), f.shown()
				yes.Jt, no.Jf, both.Jt, both.Jf = j, j, j, j
				hidden = append(hidden, yes, no, both)
			}
		}
		for _, i := range hidden {
			if got := asm.Line(i); got != raw(i) {
				t.Errorf("P3.1: Line(%v) = %q; want %q", i, got, raw(i))
			}
		}
	}
}

func TestLineOfUnknownCodes(t *testing.T) {
	for c := range 1 << 16 {
		if insn.Known(uint16(c)) {
			continue
		}
		for _, i := range []api.Insn{{Code: uint16(c)}, {Code: uint16(c), Jt: 1, Jf: 255, K: 4294967295}} {
			if got := asm.Line(i); got != raw(i) {
				t.Errorf("P3.1: Line(%v) = %q; want %q", i, got, raw(i))
			}
		}
	}
}

func TestLineExamples(t *testing.T) {
	for _, x := range []struct {
		i    api.Insn
		want string
	}{
		{api.Insn{Code: api.LdAbsH, K: 12}, "ldh [12]"},
		{api.Insn{Code: api.JgtX, Jt: 1}, "jgt x 1 0"},
		{api.Insn{Code: api.LdImm, Jt: 1, K: 5}, "raw 0 1 0 5"},
		{api.Insn{Code: 8}, "raw 8 0 0 0"},
		{api.Insn{Code: 0x106, K: 7}, "raw 262 0 0 7"},
		{api.Insn{Code: 65535, Jt: 255, Jf: 255, K: 4294967295}, "raw 65535 255 255 4294967295"},
	} {
		if got := asm.Line(x.i); got != x.want {
			t.Errorf("P3.1: Line(%v) = %q; want %q", x.i, got, x.want)
		}
	}
}

func TestPrint(t *testing.T) {
	if s := print(t, []api.Insn{{Code: api.Tax}, {Code: api.RetK}}); s != "tax\nret #0\n" {
		t.Errorf("P3.2: %q", s)
	}
	if s, e := asm.Print(); s != "" || e != api.OK {
		t.Errorf("P3.2: Print() = %q, %d", s, e)
	}
	if s, e := asm.Print(nil...); s != "" || e != api.OK {
		t.Errorf("P3.2: Print(nil...) = %q, %d", s, e)
	}
	p := varied(300)
	var want strings.Builder
	for _, i := range p {
		want.WriteString(asm.Line(i) + "\n")
	}
	if s := print(t, p); s != want.String() {
		t.Errorf("P3.2: Print is not the lines one by one:\n%s", s)
	}
}

func TestPrintAtItsLimit(t *testing.T) {
	p := varied(api.MaxProgram + 1)
	if s := print(t, p[:api.MaxProgram]); strings.Count(s, "\n") != api.MaxProgram {
		t.Errorf("P3.2: Print of MaxProgram instructions: %d lines", strings.Count(s, "\n"))
	}
	if s, e := asm.Print(p...); s != "" || e != api.ErrAsmMany {
		t.Errorf("P3.2: Print of one more: %d bytes, %d", len(s), e)
	}
	if s, e := asm.Print(varied(1 << 18)...); s != "" || e != api.ErrAsmMany {
		t.Errorf("P3.2: Print of many more: %d bytes, %d", len(s), e)
	}
}

func TestParseOfEachForm(t *testing.T) {
	for _, f := range table() {
		for _, end := range []string{"", "\n"} {
			if p := parse(t, f.text+end); !slices.Equal(p, []api.Insn{f.shown()}) {
				t.Errorf("P3.3: Parse(%q) = %v; want %v", f.text+end, p, f.shown())
			}
		}
	}
}

func TestParseExamples(t *testing.T) {
	for _, x := range []struct {
		text string
		want []api.Insn
	}{
		{"", nil},
		{"ret #1", []api.Insn{{Code: api.RetK, K: 1}}},
		{"tax\nret a\n", []api.Insn{{Code: api.Tax}, {Code: api.RetA}}},
		{"tax\nret a", []api.Insn{{Code: api.Tax}, {Code: api.RetA}}},
		{"ld #4294967295", []api.Insn{{Code: api.LdImm, K: 4294967295}}},
		{"jeq #10 255 255", []api.Insn{{Code: api.JeqK, Jt: 255, Jf: 255, K: 10}}},
		{"jset x 0 100", []api.Insn{{Code: api.JsetX, Jf: 100}}},
		{"raw 8 0 0 0", []api.Insn{{Code: 8}}},
		{"raw 7 0 0 1", []api.Insn{{Code: api.Tax, K: 1}}},
		{"raw 0 1 0 5", []api.Insn{{Code: api.LdImm, Jt: 1, K: 5}}},
		{"raw 256 0 0 0", []api.Insn{{Code: 256}}},
		{"raw 65535 255 255 4294967295", []api.Insn{{Code: 65535, Jt: 255, Jf: 255, K: 4294967295}}},
	} {
		if p := parse(t, x.text); !slices.Equal(p, x.want) {
			t.Errorf("P3.3: Parse(%q) = %v; want %v", x.text, p, x.want)
		}
	}
}

// wrong tells lines that are the text of no instruction, made from one that is.
func wrong(line string) []string {
	out := []string{" " + line, line + " ", "\t" + line, line + "\t", line + "\r", line + "\x00", line + "x", line + "0x", "y" + line, line + line, line[:len(line)-1] + "\xff", strings.ToUpper(line), line + " 0", line + " ; remark"}
	for at := range len(line) {
		out = append(out, line[:at]+" "+line[at:], line[:at]+"\t"+line[at:], line[:at]+"?"+line[at+1:])
		if line[at] == ' ' {
			out = append(out, line[:at]+line[at+1:], line[:at]+"\t"+line[at+1:])
		}
	}
	for _, n := range []string{"11", "12", "13"} {
		for _, bad := range []string{"", "0" + n, "00", "000000000" + n, "-1", "-0", "+" + n, "0x1", "1e1", "1_1", "1.0", "4294967296", "4294967297", "42949672960", "18446744073709551616", "18446744073709551617", strings.Repeat("9", 100), strings.Repeat("0", 100)} {
			if strings.Contains(line, n) {
				out = append(out, strings.Replace(line, n, bad, 1))
			}
		}
	}
	for _, n := range []string{"11", "12"} {
		if strings.Contains(line, n) {
			out = append(out, strings.Replace(line, n, "256", 1), strings.Replace(line, n, "300", 1), strings.Replace(line, n, "512", 1))
		}
	}
	return out
}

func TestParseRefusesLinesThatAreNone(t *testing.T) {
	for _, f := range append(table(), form{text: "raw 8 11 12 13"}) {
		for _, line := range wrong(f.text) {
			refused(t, line, 1, api.ErrAsmLine)
			refused(t, line+"\n", 1, api.ErrAsmLine)
		}
	}
}

func TestParseRefusesRawLinesOfFormsThatHold(t *testing.T) {
	for _, f := range table() {
		refused(t, raw(f.shown()), 1, api.ErrAsmLine)
		refused(t, raw(api.Insn{Code: f.code}), 1, api.ErrAsmLine)
	}
	refused(t, "raw 7 0 0 0", 1, api.ErrAsmLine)
	for _, line := range []string{"raw", "raw ", "raw 8", "raw 8 0 0", "raw 8 0 0 ", "raw 8 0 0 0 0", "raw 08 0 0 0", "raw 8 00 0 0", "raw 8 0 00 0", "raw 8 0 0 00", "raw 65536 0 0 0", "raw 65544 0 0 0", "raw 8 256 0 0", "raw 8 0 256 0", "raw 8 0 0 4294967296", "raw 18446744073709551624 0 0 0", "raw 8,0,0,0", "raw -8 0 0 0", "raw 0x8 0 0 0"} {
		refused(t, line, 1, api.ErrAsmLine)
	}
}

func TestParseRefusesFormsOfNoCode(t *testing.T) {
	for _, line := range []string{"ldx [1]", "ldxb [1]", "ldh #1", "ldb M[1]", "ldh len", "ldx [x+1]", "ld [x+]", "ld [X+1]", "ld [1+x]", "ld M[x+1]", "ld m[1]", "ld M[]", "ld []", "ld #", "ld", "st #1", "st [1]", "neg #1", "neg x", "not", "add", "add #", "add a", "ret", "ret x", "ret 1", "tax x", "ja", "ja #1", "ja 1 2", "jeq #1", "jeq #1 2", "jeq 1 2 3", "jeq #1 2 3 4", "jne #1 2 3", "jlt x 1 2", "jset x 1", "ldxb 4*([1]&0xf)", "ldxb 4*([1]&14)", "ldxb 5*([1]&15)", "ldx 4*([1]&15)", "ld #K", "ld [K]", "raw C T F K", "jeq x T F", "#", "ö"} {
		refused(t, line, 1, api.ErrAsmLine)
	}
}

func TestParseTellsTheFirstWrongLine(t *testing.T) {
	for _, x := range []struct {
		text string
		line int
	}{
		{"\n", 1}, {"\n\n", 1}, {"\ntax", 1}, {"tax\n\n", 2}, {"tax\n\nret a", 2}, {"tax\nret a\n\n", 3},
		{"tax\r\nret a", 1}, {"tax\nret a\r\n", 2}, {"tax\vret a", 1}, {"tax\u0085ret a", 1}, {"tax\rret a", 1},
		{"ret  #1", 1}, {"ld #01", 1}, {"ld #4294967296", 1},
		{"tax\nwhat\nwhat\n", 2}, {"tax\ntax\ntax\nld #01\n\n", 4},
		{strings.Repeat("tax\n", 4095) + "what", 4096}, {strings.Repeat("tax\n", 4095) + "\n" + "what", 4096},
		{"what\n" + strings.Repeat("tax\n", 5000), 1}, {strings.Repeat("tax\n", 4000) + "what\n" + strings.Repeat("tax\n", 4000), 4001},
	} {
		refused(t, x.text, x.line, api.ErrAsmLine)
	}
}

func TestParseAtItsLimitOfLines(t *testing.T) {
	full := print(t, varied(api.MaxProgram))
	for _, s := range []string{full, full[:len(full)-1]} {
		if p := parse(t, s); len(p) != api.MaxProgram {
			t.Errorf("P3.3: Parse of MaxProgram lines: %d instructions", len(p))
		}
	}
	for _, more := range []string{"tax", "tax\n", "what", "\n", " ", "\n\n", "tax\nwhat\n", strings.Repeat("tax\n", 100000)} {
		refused(t, full+more, api.MaxProgram+1, api.ErrAsmMany)
	}
}

func TestParseAtItsLimitOfBytes(t *testing.T) {
	if api.MaxText != 1<<20 {
		t.Fatalf("MaxText is %d", api.MaxText)
	}
	lines := strings.Repeat("tax\n", 1<<18)
	refused(t, lines, api.MaxProgram+1, api.ErrAsmMany)
	refused(t, lines+"\n", 0, api.ErrAsmLong)
	refused(t, lines+"t", 0, api.ErrAsmLong)
	refused(t, lines+lines, 0, api.ErrAsmLong)
	for _, text := range []string{"x", "\n", " ", "9"} {
		refused(t, strings.Repeat(text, 1<<20), 1, api.ErrAsmLine)
		refused(t, strings.Repeat(text, 1<<20+1), 0, api.ErrAsmLong)
	}
	for _, head := range []string{"ld #", "ld [", "raw ", "raw 8 0 0 ", "jeq #1 ", "jeq x 1 "} {
		for _, digit := range []string{"0", "9"} {
			refused(t, head+strings.Repeat(digit, 1<<20-len(head)), 1, api.ErrAsmLine)
			refused(t, "tax\n"+head+strings.Repeat(digit, 1<<19), 2, api.ErrAsmLine)
		}
	}
}

func TestParseOfPrint(t *testing.T) {
	for _, n := range []int{0, 1, 2, 49, 300, api.MaxProgram} {
		p := varied(n)
		s := print(t, p)
		if q := parse(t, s); !slices.Equal(q, p) {
			t.Errorf("P3.4: Parse of Print of %d instructions is another program", n)
		}
		if q := parse(t, strings.TrimSuffix(s, "\n")); !slices.Equal(q, p) {
			t.Errorf("P3.4: Parse of Print of %d instructions, but for the last end of line, is another program", n)
		}
	}
}

func TestPrintOfParse(t *testing.T) {
	text := "raw 9 1 2 3\n"
	for _, f := range table() {
		text += f.text + "\n"
		if !f.showsK || !f.showsJ {
			text += raw(api.Insn{Code: f.code, Jt: 1, Jf: 1, K: 1}) + "\n"
		}
	}
	if got := print(t, parse(t, text)); got != text {
		t.Errorf("P3.4: Print of Parse is another text:\n%s", got)
	}
	if got := print(t, parse(t, text[:len(text)-1])); got != text {
		t.Errorf("P3.4: Print of Parse of a text without its last end of line:\n%s", got)
	}
}

func TestNoTwoInstructionsHaveTheSameText(t *testing.T) {
	texts := map[string]api.Insn{}
	hold := func(i api.Insn) {
		s := asm.Line(i)
		if other, ok := texts[s]; ok && other != i {
			t.Errorf("P3.4: %v and %v are both %q", other, i, s)
		}
		texts[s] = i
	}
	for c := range 300 {
		for _, j := range [][2]uint8{{0, 0}, {0, 1}, {1, 0}, {11, 1}, {1, 11}, {255, 255}} {
			for _, k := range []uint32{0, 1, 11, 111, 4294967295} {
				hold(api.Insn{Code: uint16(c), Jt: j[0], Jf: j[1], K: k})
			}
		}
	}
	for c := range 1 << 16 {
		hold(api.Insn{Code: uint16(c)})
	}
	for s, i := range texts {
		if p := parse(t, s); !slices.Equal(p, []api.Insn{i}) {
			t.Errorf("P3.4: %v is %q, which is %v", i, s, p)
		}
	}
}

func TestPrintLeavesAndKeepsNothing(t *testing.T) {
	whole := varied(120)
	before := slices.Clone(whole)
	s := print(t, whole[:100])
	want := strings.Clone(s)
	if n := strings.Count(s, "\n"); n != 100 {
		t.Errorf("R3: Print read behind its list's end: %d lines", n)
	}
	if !slices.Equal(whole, before) {
		t.Error("R3: Print changed its program, or the spare room behind it")
	}
	for at := range whole {
		whole[at] = api.Insn{Code: 0xdead, Jt: 0xde, Jf: 0xad, K: 0xdeadbeef}
	}
	if s != want {
		t.Error("R3: Print's answer changed with its argument")
	}
	many := varied(api.MaxProgram + 2)
	before = slices.Clone(many)
	asm.Print(many[:api.MaxProgram+1]...)
	if !slices.Equal(many, before) {
		t.Error("R3: a refused Print changed its program")
	}
}

func TestParseHandsOutNewMemory(t *testing.T) {
	p := varied(120)
	s := print(t, p)
	first, second := parse(t, s), parse(t, s)
	for at := range first[:cap(first)] {
		first[:cap(first)][at] = api.Insn{Code: 0xdead, Jt: 0xde, Jf: 0xad, K: 0xdeadbeef}
	}
	if !slices.Equal(second, p) {
		t.Error("R3: two answers of Parse share memory")
	}
	if third := parse(t, s); !slices.Equal(third, p) {
		t.Error("R3: Parse keeps an answer that it handed out")
	}
	// What Parse is given may stand inside a greater text.
	if q := parse(t, ("x" + s + "what\n")[1:1+len(s)]); !slices.Equal(q, p) {
		t.Error("R3: Parse read past its text's ends")
	}
}
