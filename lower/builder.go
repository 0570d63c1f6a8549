package lower

import "riddle/api"

// goal is called with the number of the block that a block goes on at, once that is known.
type goal func(block int)

// joined tells a goal that is several ones.
func joined(goals ...goal) goal {
	return func(block int) {
		for _, leads := range goals {
			leads(block)
		}
	}
}

// list is the blocks that stand so far; the last one is open till it is ended. A block goes on at later ones alone, as graph asks.
type list []api.Block

// begin opens a block at which those go on that the goals are of.
func (l *list) begin(from ...goal) {
	*l = append(*l, api.Block{})
	joined(from...)(len(*l) - 1)
}

func (l *list) open() *api.Block {
	return &(*l)[len(*l)-1]
}

// lay puts instructions behind those of the open block.
func (l *list) lay(code ...api.Insn) {
	open := l.open()
	open.Code = append(open.Code, code...)
}

// ask ends the open block by a test.
func (l *list) ask(question api.Insn) truth {
	open := l.open()
	open.End, open.Last = api.EndTest, question
	// The list may have moved by the time that a goal is known: it is asked for its block then.
	at := len(*l) - 1
	return truth{
		first: at,
		yes:   func(block int) { (*l)[at].Yes = block },
		no:    func(block int) { (*l)[at].No = block },
	}
}

// leave ends the open block by a go.
func (l *list) leave() goal {
	l.open().End = api.EndGo
	at := len(*l) - 1
	return func(block int) { (*l)[at].Yes = block }
}

// give ends the open block by a return.
func (l *list) give(value uint32) {
	open := l.open()
	open.End, open.Last = api.EndReturn, do(api.RetK, value)
}

// do tells an instruction; by is 0 where its code does not look at it.
func do(code uint16, by uint32) api.Insn {
	return api.Insn{Code: code, K: by}
}

// builder makes the blocks of a filter.
type builder struct {
	list
	wrong   []goal // of frames that are not well formed
	numbers stack[number]
	truths  stack[truth]
}

// must goes on where a truth says yes; else the frame is not well formed.
func (b *builder) must(t truth) {
	b.wrong = append(b.wrong, t.no)
	b.begin(t.yes)
}

// claim lays a block that asks a question of what its code comes to.
func (b *builder) claim(question api.Insn, code ...api.Insn) truth {
	b.begin()
	b.lay(code...)
	return b.ask(question)
}

// stack is parts that no node has taken yet.
type stack[T any] []T

func (s *stack[T]) put(part T) {
	*s = append(*s, part)
}

func (s *stack[T]) take() T {
	last := len(*s) - 1
	part := (*s)[last]
	*s = (*s)[:last]
	return part
}

// pair takes two parts, in the order in which they stand.
func (s *stack[T]) pair() (T, T) {
	second := s.take()
	return s.take(), second
}
