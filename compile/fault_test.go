package compile

import (
	"errors"
	"testing"

	"riddle/api"
)

// What goes wrong tells its number and its place, and wraps the number.
func TestFault(t *testing.T) {
	if err := refused(api.OK, 0); err != nil {
		t.Errorf("OK is an error: %v", err)
	}
	err := refused(api.ErrParseEnd, 6)
	var f fault
	if !errors.As(err, &f) || f != (fault{why: number(api.ErrParseEnd), place: 6}) {
		t.Errorf("%+v", f)
	}
	if n := number(0); !errors.As(err, &n) || api.Errno(n) != api.ErrParseEnd {
		t.Errorf("no number is wrapped: %d", n)
	}
	if text := err.Error(); text != "error 110 at 6" {
		t.Error(text)
	}
}

// Each pass is told apart from what a later one would find.
func TestPassesStopAtTheFirst(t *testing.T) {
	j := job{source: "1/0=1"}
	if err := j.run(passesOfSource()); err == nil || j.tree == nil || j.graph != nil || j.program != nil {
		t.Errorf("%v: %d blocks, %d instructions", err, len(j.graph), len(j.program))
	}
}
