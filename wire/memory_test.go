package wire_test

import (
	"fmt"
	"strings"
	"testing"

	"commonplace/api"
	"commonplace/wire"
)

func roomyMark(m api.Mark) api.Mark {
	return api.Mark{Path: append(make([]api.Step, 0, len(m.Path)+2), m.Path...), Clock: m.Clock}
}

// roomy: the same note, with spare room behind each list of it.
func roomy(n api.Note) api.Note {
	out := n
	out.Needs = append(make([]int, 0, len(n.Needs)+3), n.Needs...)
	out.Deeds = make([]api.Deed, 0, len(n.Deeds)+3)
	for _, d := range n.Deeds {
		d.Mark, d.Run.Mark = roomyMark(d.Mark), roomyMark(d.Run.Mark)
		out.Deeds = append(out.Deeds, d)
	}
	return out
}

// whole: all that a note has, its spare room too.
func whole(n api.Note) string {
	out := fmt.Sprint(n, n.Needs[:cap(n.Needs)], n.Deeds[:cap(n.Deeds)])
	for _, p := range paths(n) {
		out += fmt.Sprint(p[:cap(p)])
	}
	return out
}

// paths of all marks of a note.
func paths(n api.Note) [][]api.Step {
	var out [][]api.Step
	for _, d := range n.Deeds {
		out = append(out, d.Mark.Path, d.Run.Mark.Path)
	}
	return out
}

// spoil all lists of a note, and the room behind them; tells whether two of its paths share memory.
func spoil(n api.Note) bool {
	all := paths(n)
	shared := false
	for i, p := range all {
		left := fmt.Sprint(all[i+1:])
		for k := range p[:cap(p)] {
			p[:cap(p)][k] = api.Step{Digit: 99, Site: 9}
		}
		shared = shared || fmt.Sprint(all[i+1:]) != left
	}
	for i := range n.Needs[:cap(n.Needs)] {
		n.Needs[:cap(n.Needs)][i] = 77
	}
	clear(n.Deeds[:cap(n.Deeds)])
	return shared
}

func TestP2OnlyReads(t *testing.T) {
	n := roomy(note())
	was := whole(n)
	wire.Check(n)
	s, _ := wire.Encode(n)
	if whole(n) != was {
		t.Error("what was handed in is not as it was")
	}
	spoil(n)
	if s != noteBytes() {
		t.Errorf("the bytes are now %q", s)
	}
}

func TestP2NewMemory(t *testing.T) {
	s := noteBytes()
	first, _ := wire.Decode(s)
	second, _ := wire.Decode(s)
	if spoil(second) {
		t.Error("two lists of an answer share memory")
	}
	if !same(first, note()) {
		t.Errorf("the other answer is now %v", first)
	}
	if third, e := wire.Decode(s); e != api.OK || !same(third, note()) {
		t.Errorf("a later answer is %v, %d", third, e)
	}
}

// Lists without elements may be nil or not.
func TestP2EmptyLists(t *testing.T) {
	n := note()
	for i := range n.Deeds {
		d := &n.Deeds[i]
		if d.Kind == api.DeedPut {
			d.Mark.Path = []api.Step{}
		} else {
			d.Run.Mark.Path = []api.Step{}
		}
	}
	if s, e := wire.Encode(n); e != api.OK || s != noteBytes() {
		t.Errorf("%q, %d", s, e)
	}
	n.Deeds = []api.Deed{}
	if e := wire.Check(n); e != api.ErrForm {
		t.Errorf("no deeds, not nil: %d", e)
	}
	n.Needs = []int{}
	if e := wire.Check(n); e != api.ErrForm {
		t.Errorf("no needs, not nil: %d", e)
	}
}

func TestP3SameEachTime(t *testing.T) {
	for i := range 3 {
		if s, e := wire.Encode(note()); e != api.OK || s != noteBytes() {
			t.Errorf("time %d: %q, %d", i, s, e)
		}
		wire.Encode(greatest())
		wire.Decode("hello")
		if n, e := wire.Decode(noteBytes()); e != api.OK || !same(n, note()) {
			t.Errorf("time %d: %v, %d", i, n, e)
		}
	}
}

func TestP4Many(t *testing.T) {
	const many = 1 << 20
	n := note()
	n.Deeds = make([]api.Deed, many)
	if s, e := wire.Encode(n); e != api.ErrMany || s != "" {
		t.Errorf("very many deeds: %d", e)
	}
	n.Needs = make([]int, many)
	if s, e := wire.Encode(n); e != api.ErrForm || s != "" {
		t.Errorf("very many needs: %d", e)
	}
	n = note()
	n.Deeds[0].Run.Text = xs(many)
	if s, e := wire.Encode(n); e != api.ErrMany || s != "" {
		t.Errorf("very many signs: %d", e)
	}
	if n, e := wire.Decode(strings.Repeat("\x02", many)); e != api.ErrForm || !isZero(n) {
		t.Errorf("very many bytes: %d", e)
	}
}
