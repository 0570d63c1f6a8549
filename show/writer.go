package show

import (
	"slices"
	"strings"
)

// writer puts a text together from its end on, and counts what is open in it as parse does.
type writer struct {
	texts   []string // the last one first
	nested  int
	deepest int
}

// put puts texts ahead of all that stands already.
func (w *writer) put(texts ...string) {
	for _, text := range slices.Backward(texts) {
		w.texts = append(w.texts, text)
	}
}

// close puts down the end of a bracket, a not or a minus, of which the text comes to be one deeper.
func (w *writer) close(end string) {
	w.put(end)
	w.nested++
	w.deepest = max(w.deepest, w.nested)
}

// open puts down what opens it.
func (w *writer) open(begin string) {
	w.put(begin)
	w.nested--
}

func (w *writer) text() string {
	slices.Reverse(w.texts)
	return strings.Join(w.texts, "")
}
