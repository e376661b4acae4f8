package edit_test

import (
	"fmt"
	"testing"

	"commonplace/api"
	"commonplace/edit"
)

func roomyMark(m api.Mark) api.Mark {
	return api.Mark{Path: append(make([]api.Step, 0, len(m.Path)+2), m.Path...), Clock: m.Clock}
}

// roomy: the same state, with spare room behind each list of it.
func roomy(s api.State) api.State {
	out := api.State{Atoms: make([]api.Atom, 0, len(s.Atoms)+70), Gone: make([]api.Mark, 0, len(s.Gone)+70)}
	for _, a := range s.Atoms {
		out.Atoms = append(out.Atoms, api.Atom{Mark: roomyMark(a.Mark), Sign: a.Sign})
	}
	for _, m := range s.Gone {
		out.Gone = append(out.Gone, roomyMark(m))
	}
	return out
}

// marksOf a state.
func marksOf(s api.State) []api.Mark {
	var out []api.Mark
	for _, a := range s.Atoms {
		out = append(out, a.Mark)
	}
	return append(out, s.Gone...)
}

// whole: all that a state has, its spare room too.
func whole(s api.State) string {
	out := fmt.Sprint(s.Atoms[:cap(s.Atoms)], s.Gone[:cap(s.Gone)])
	for _, m := range marksOf(s) {
		out += fmt.Sprint(m.Path[:cap(m.Path)])
	}
	return out
}

// spoil marks, and the room behind their paths; tells whether two of them share memory.
func spoil(l []api.Mark) bool {
	for i, m := range l {
		left := fmt.Sprint(l[i+1:])
		for k := range m.Path[:cap(m.Path)] {
			m.Path[:cap(m.Path)][k] = api.Step{Digit: 99, Site: 9}
		}
		if fmt.Sprint(l[i+1:]) != left {
			return true
		}
	}
	return false
}

// answers of all kinds, of one state.
func answers(s api.State) map[string][]api.Deed {
	out := map[string][]api.Deed{}
	for at := range len(s.Atoms) + 1 {
		out[fmt.Sprint("put at ", at)], _ = edit.Put(s, at, "new", 2, 5)
		out[fmt.Sprint("take from ", at)], _ = edit.Take(s, at, len(s.Atoms)-at)
	}
	return out
}

func TestP2NewMemory(t *testing.T) {
	s := roomy(hello())
	was := whole(s)
	for name, l := range answers(s) {
		var marks []api.Mark
		for _, d := range l {
			marks = append(marks, d.Mark, d.Run.Mark)
		}
		if spoil(marks) {
			t.Fatalf("%s: two lists of an answer share memory", name)
		}
		if whole(s) != was {
			t.Fatalf("%s: what was handed in is not as it was", name)
		}
	}
}

// What is handed in and changed afterwards does not change an answer.
func TestP2NothingIsKept(t *testing.T) {
	s := roomy(hello())
	got := answers(s)
	was := fmt.Sprint(got)
	spoil(marksOf(s))
	clear(s.Atoms)
	clear(s.Gone)
	if fmt.Sprint(got) != was {
		t.Error("an answer shares memory with what was handed in")
	}
}

func TestP3SameEachTime(t *testing.T) {
	first := fmt.Sprint(answers(hello()))
	answers(long(100))
	if second := fmt.Sprint(answers(roomy(hello()))); second != first {
		t.Errorf("%s, then %s", first, second)
	}
}

func TestP4Many(t *testing.T) {
	const many = 1 << 20
	for _, s := range []api.State{{Atoms: make([]api.Atom, many)}, {Gone: make([]api.Mark, many)}} {
		if l, e := edit.Put(s, 0, xs(many), 0, 1); e != api.ErrMany || len(l) != 0 {
			t.Errorf("Put into a state of very many: %d", e)
		}
		if l, e := edit.Take(s, 0, many); e != api.ErrMany || len(l) != 0 {
			t.Errorf("Take from a state of very many: %d", e)
		}
	}
	if got, e := edit.Plain(xs(many), plainPut(0, xs(many))); e != api.ErrMany || got != "" {
		t.Errorf("Plain of very many: %d", e)
	}
}
