package state_test

import (
	"fmt"
	"slices"
	"testing"

	"commonplace/api"
	"commonplace/state"
)

func roomyMark(m api.Mark) api.Mark {
	return api.Mark{Path: append(make([]api.Step, 0, len(m.Path)+2), m.Path...), Clock: m.Clock}
}

// roomy: the same state, with spare room behind each list of it.
func roomy(s api.State) api.State {
	out := api.State{Atoms: make([]api.Atom, 0, len(s.Atoms)+70), Gone: make([]api.Mark, 0, len(s.Gone)+70)}
	for _, a := range s.Atoms {
		out.Atoms = append(out.Atoms, api.Atom{Mark: roomyMark(a.Mark), Sign: a.Sign})
	}
	for _, m := range s.Gone {
		out.Gone = append(out.Gone, roomyMark(m))
	}
	return out
}

func wholeMark(m api.Mark) string {
	return fmt.Sprint(len(m.Path), m.Path[:cap(m.Path)], m.Clock)
}

// whole: all that a state has, its spare room too.
func whole(s api.State) string {
	out := fmt.Sprint(len(s.Atoms), s.Atoms[:cap(s.Atoms)], len(s.Gone), s.Gone[:cap(s.Gone)])
	for _, a := range s.Atoms {
		out += wholeMark(a.Mark)
	}
	for _, m := range s.Gone {
		out += wholeMark(m)
	}
	return out
}

// paths of all marks of a state.
func paths(s api.State) [][]api.Step {
	var out [][]api.Step
	for _, a := range s.Atoms {
		out = append(out, a.Mark.Path)
	}
	for _, m := range s.Gone {
		out = append(out, m.Path)
	}
	return out
}

// spoil paths, and the room behind them; tells whether two of them share memory.
func spoil(l [][]api.Step) bool {
	for i, p := range l {
		left := fmt.Sprint(l[i+1:])
		for k := range p {
			p[k] = api.Step{Digit: 99, Site: 9}
		}
		for k := range p[len(p):cap(p)] {
			p[len(p):cap(p)][k] = api.Step{Digit: 98, Site: 8}
		}
		if fmt.Sprint(l[i+1:]) != left {
			return true
		}
	}
	return false
}

func TestP2NewMemory(t *testing.T) {
	deeds := []api.Deed{
		put(roomyMark(of(1, 3, 0)), "AAAAA"), put(roomyMark(of(1, 60, 0)), "new"), take(roomyMark(of(1, 60, 0)), 2), take(roomyMark(of(1, 3, 0)), 2),
		take(roomyMark(of(1, 9, 1)), 1), put(roomyMark(of(1, 9, 1)), "gone"),
	}
	for n := range len(deeds) + 1 {
		s, l := roomy(hello()), slices.Clone(deeds[:n])
		told := func() string {
			out := whole(s) + fmt.Sprint(l)
			for _, d := range l {
				out += wholeMark(d.Mark) + wholeMark(d.Run.Mark)
			}
			return out
		}
		was := told()
		got, e := state.All(s, l)
		if e != api.OK {
			t.Fatalf("All: %d", e)
		}
		if n > 0 {
			one, _ := state.Do(s, l[n-1])
			if spoil(paths(one)) {
				t.Fatal("two marks of a state share memory")
			}
		}
		if spoil(paths(got)) {
			t.Fatal("two marks of a state share memory")
		}
		for i := range got.Atoms[:cap(got.Atoms)] {
			got.Atoms[:cap(got.Atoms)][i] = api.Atom{Sign: 1}
		}
		for i := range got.Gone[:cap(got.Gone)] {
			got.Gone[:cap(got.Gone)][i] = api.Mark{Clock: 1}
		}
		state.Check(s)
		if told() != was {
			t.Fatal("what was handed in is not as it was")
		}
	}
}

// What is handed in and changed afterwards does not change an answer.
func TestP2NothingIsKept(t *testing.T) {
	s, l := hello(), []api.Deed{put(of(1, 60, 0), "new"), take(of(1, 61, 0), 1)}
	got, _ := state.All(s, l)
	was := fmt.Sprint(got)
	spoil(paths(s))
	for _, d := range l {
		spoil([][]api.Step{d.Mark.Path, d.Run.Mark.Path})
	}
	if fmt.Sprint(got) != was {
		t.Error("the answer shares memory with what was handed in")
	}
}

func TestP3SameEachTime(t *testing.T) {
	l := []api.Deed{put(of(1, 60, 0), "new"), take(of(1, 61, 0), 1)}
	first, _ := state.All(hello(), l)
	state.Do(first, take(of(1, 3, 0), 5))
	if second, _ := state.All(roomy(hello()), l); !same(first, second) {
		t.Errorf("%v, then %v", first, second)
	}
}

func TestP4Many(t *testing.T) {
	const many = 1 << 20
	for _, s := range []api.State{{Atoms: make([]api.Atom, many)}, {Gone: make([]api.Mark, many)}} {
		if got, e := state.All(s, nil); e != api.ErrMany || !isZero(got) {
			t.Errorf("All of a state of very many: %d", e)
		}
	}
	l := make([]api.Deed, many)
	for i := range l {
		l[i] = put(of(1, 3, 0), "hi")
	}
	l[many-1].Kind = 0
	if got, e := state.All(api.State{}, l); e != api.ErrKind || !isZero(got) {
		t.Errorf("All of very many deeds, the last one wrong: %d", e)
	}
	if got, e := state.All(api.State{}, l[:1<<14]); e != api.OK || textOf(got) != "hi" {
		t.Errorf("All of very many deeds: %q, %d", textOf(got), e)
	}
}
