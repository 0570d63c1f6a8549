package opt

import (
	"slices"

	"riddle/api"
)

// longestGlance is how many instructions a Code has at most for a way to be led past its block: each way into the block goes through them.
const longestGlance = 16

// sweep goes through a draft from its last block to its first: where it is, all that a run can still come to is done with.
type sweep struct {
	draft
	*lore
	live []set // at each block's beginning: the words that may still be read
}

// touch takes something out of a block, and tells whether it found anything.
type touch func(s *sweep, n int) bool

// touches stand in a row: each one makes room for the next.
func touches() []touch {
	return []touch{(*sweep).leap, (*sweep).decide, (*sweep).hollow, (*sweep).prune}
}

// takeOut leads ways past blocks that do nothing on them, and takes out tests that decide nothing and instructions whose words nobody reads.
func (d *draft) takeOut() bool {
	s := &sweep{draft: *d, lore: d.learn(), live: make([]set, len(*d))}
	row := touches()
	found := false
	for n := len(*d) - 1; n >= 0; n-- {
		for _, finds := range row {
			if finds(s, n) {
				found = true
			}
		}
	}
	return found
}

// leap leads the ways out of a block past the blocks that do nothing on them.
func (s *sweep) leap(n int) bool {
	b := &s.draft[n]
	if !s.come[n] || b.End == api.EndReturn {
		return false
	}
	w, goesOn := s.through(b.Code, s.at[n])
	if !goesOn {
		return false
	}
	yes, no := b.Yes, b.No
	if b.End == api.EndTest {
		no = s.beyond(no, w)
		w = taught(b.Last, w)
	}
	yes = s.beyond(yes, w)
	found := yes != b.Yes || no != b.No
	b.Yes, b.No = yes, no
	return found
}

// beyond tells the first block on a way at which there is something to do.
func (s *sweep) beyond(goal int, w words) int {
	for {
		next, ok := s.past(goal, w)
		if !ok {
			return goal
		}
		goal = next
	}
}

// past tells where a run that comes to a block with such words goes on behind it, if it must, and if nothing there can tell whether it came by.
func (s *sweep) past(n int, w words) (int, bool) {
	b := s.draft[n]
	if b.End == api.EndReturn || len(b.Code) > longestGlance {
		return 0, false
	}
	if slices.ContainsFunc(b.Code, mayFail) {
		return 0, false
	}
	after, _ := s.through(b.Code, w)
	goal := b.Yes
	if b.End == api.EndTest {
		yes, known := s.answer(b.Last, after)
		if !known {
			return 0, false
		}
		if !yes {
			goal = b.No
		}
	}
	for at := range w {
		if s.live[goal].has(at) && after[at] != w[at] {
			return 0, false
		}
	}
	return goal, true
}

// decide makes a go of a test both of whose goals are one.
func (s *sweep) decide(n int) bool {
	b := &s.draft[n]
	if b.End != api.EndTest || b.Yes != b.No {
		return false
	}
	*b = going(b.Code, b.Yes)
	return true
}

// hollow takes out all of a block behind which 0 is returned at once: with a fault in it or without, the value is 0, and the return takes the one step that each run takes at least.
func (s *sweep) hollow(n int) bool {
	b := &s.draft[n]
	if len(b.Code) == 0 && b.End != api.EndTest || !s.givesNothing(*b) {
		return false
	}
	b.Code = nil
	if b.End == api.EndTest {
		*b = going(nil, b.Yes)
	}
	return true
}

// givesNothing tells whether a run that is behind a block's Code returns 0 without any further Code: that of a block which it leads to is taken out by then.
func (s *sweep) givesNothing(b api.Block) bool {
	nought := func(b api.Block) bool { return b.End == api.EndReturn && b.Last == giving(nil, 0).Last }
	switch b.End {
	case api.EndReturn:
		return nought(b)
	case api.EndGo:
		return nought(s.draft[b.Yes])
	}
	return nought(s.draft[b.Yes]) && nought(s.draft[b.No])
}

// prune takes out of a block the instructions whose words nobody reads, if they can not end the run, and tells from there on which words are read.
func (s *sweep) prune(n int) bool {
	b := &s.draft[n]
	live := s.liveBehind(*b)
	first := len(b.Code)
	for at := len(b.Code) - 1; at >= 0; at-- {
		i := b.Code[at]
		if !live.has(target(i)) && !mayFail(i) {
			continue
		}
		first--
		b.Code[first] = i
		live = live&^only(target(i)) | sources(i)
	}
	b.Code = b.Code[first:]
	s.live[n] = live
	return first > 0
}

// liveBehind tells the words that may be read behind a block's Code.
func (s *sweep) liveBehind(b api.Block) set {
	switch b.End {
	case api.EndReturn:
		return sources(b.Last)
	case api.EndGo:
		return s.live[b.Yes]
	}
	return sources(b.Last) | s.live[b.Yes] | s.live[b.No]
}
