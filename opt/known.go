package opt

import "riddle/api"

// useKnown puts what is known in the place of what asks for it, and takes out what changes nothing.
func (d *draft) useKnown() bool {
	l := d.learn()
	found := false
	for n := range *d {
		if l.come[n] && l.rewrite(&(*d)[n], l.at[n]) {
			found = true
		}
	}
	return found
}

// rewrite makes a block plainer that a run comes to with such words, and tells whether it could.
func (l *lore) rewrite(b *api.Block, w words) bool {
	found := false
	kept := b.Code[:0]
	for _, i := range b.Code {
		if fails(i, w) {
			// A return of 0 takes the one step that the fault would.
			*b = giving(kept, 0)
			return true
		}
		after := w
		after[target(i)] = l.result(i, w)
		// What may fail never gets here: its result is a new one.
		if after == w {
			found = true
			continue
		}
		plain := plainer(i, w, after[target(i)])
		found = found || plain != i
		kept = append(kept, plain)
		w = after
	}
	b.Code = kept
	return l.rewriteEnd(b, w) || found
}

// plainer tells an instruction that writes the same result where the words are such, and asks for less.
func plainer(i api.Insn, w words, result value) api.Insn {
	x := w[wordX]
	switch to := target(i); {
	case i.Code == api.LdImm || i.Code == api.LdxImm:
		return i
	case to == wordA && result.constant():
		return api.Insn{Code: api.LdImm, K: uint32(result)}
	case to == wordX && result.constant():
		return api.Insn{Code: api.LdxImm, K: uint32(result)}
	case i.Code == api.LdMem && result == x:
		return api.Insn{Code: api.Txa}
	case i.Code == api.LdxMem && result == w[wordA]:
		return api.Insn{Code: api.Tax}
	case x.constant() && looksAtX(i):
		return byConstant(i, x)
	}
	if code, ok := indexed(i.Code); ok && x.constant() {
		// The sum can't wrap: it is within a packet, or the instruction would fail.
		return api.Insn{Code: code, K: uint32(x) + i.K}
	}
	return i
}

// byConstant tells the instruction that looks at K in the place of one that looks at X.
func byConstant(i api.Insn, x value) api.Insn {
	return api.Insn{Code: i.Code &^ withX, K: uint32(x)}
}

func (l *lore) rewriteEnd(b *api.Block, w words) bool {
	switch b.End {
	case api.EndReturn:
		return rewriteReturn(b, w)
	case api.EndTest:
		return l.rewriteTest(b, w)
	}
	return false
}

func rewriteReturn(b *api.Block, w words) bool {
	if b.Last.Code != api.RetA || !w[wordA].constant() {
		return false
	}
	b.Last = api.Insn{Code: api.RetK, K: uint32(w[wordA])}
	return true
}

func (l *lore) rewriteTest(b *api.Block, w words) bool {
	yes, known := l.answer(b.Last, w)
	switch {
	case yes:
		*b = going(b.Code, b.Yes)
	case known:
		*b = going(b.Code, b.No)
	case w[wordX].constant() && looksAtX(b.Last):
		b.Last = byConstant(b.Last, w[wordX])
	default:
		return false
	}
	return true
}

// going tells a block that ends by a go.
func going(code []api.Insn, goal int) api.Block {
	return api.Block{Code: code, End: api.EndGo, Yes: goal}
}

// giving tells a block that ends by the return of a constant.
func giving(code []api.Insn, value uint32) api.Block {
	return api.Block{Code: code, End: api.EndReturn, Last: api.Insn{Code: api.RetK, K: value}}
}
