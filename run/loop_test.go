package run

import (
	"testing"

	"commonplace/api"
)

// A loop over a function may be left early; the function must then stop, or the loop panics.
func TestLoopsMayBeLeft(t *testing.T) {
	r := api.Run{Mark: api.Mark{Path: []api.Step{{Digit: 3}}, Clock: 1}, Text: "hello"}
	var l []api.Atom
	for a := range each(r) {
		l = append(l, a)
		if len(l) == 2 {
			break
		}
	}
	l = append(l, api.Atom{Mark: api.Mark{Path: []api.Step{{Digit: 9}}, Clock: 1}, Sign: '!'})
	for piece := range pieces(l) {
		if len(piece) != 2 {
			t.Errorf("the first piece is %v", piece)
		}
		break
	}
}
