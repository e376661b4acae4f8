package desk_test

import (
	"math/rand"
	"slices"
	"testing"

	"commonplace/api"
	"commonplace/desk"
)

// meeting: desks at which many write, and all notes of them.
type meeting struct {
	desks []api.Desk
	notes []api.Note
}

// happen: one desk, drawn, writes something, or receives a note that is drawn.
func (w *meeting) happen(t *testing.T, draw *rand.Rand) {
	who := draw.Intn(len(w.desks))
	d := w.desks[who]
	size := len(d.State.Atoms)
	at := draw.Intn(size + 1)
	var e api.Errno
	switch kind := draw.Intn(6); {
	case kind == 0:
		d, e = desk.Type(d, at, drawText(draw, 1+draw.Intn(4)))
	case kind == 1:
		d, e = desk.Cut(d, at, draw.Intn(min(size-at, 4)+1))
	case kind == 2:
		d, e = desk.Write(d, drawChange(draw, textOf(d), 6))
	case len(w.notes) > 0:
		d, e = desk.Receive(d, w.notes[draw.Intn(len(w.notes))])
	}
	if e != api.OK || desk.Check(d) != api.OK {
		t.Fatalf("%d, Check %d", e, desk.Check(d))
	}
	if len(d.Out) > len(w.desks[who].Out) {
		w.notes = append(w.notes, d.Out[len(d.Out)-1])
	}
	w.desks[who] = d
}

// drawOrder of notes, some of them twice.
func drawOrder(draw *rand.Rand, l []api.Note) []api.Note {
	out := slices.Clone(l)
	for range len(l) / 2 {
		out = append(out, l[draw.Intn(len(l))])
	}
	draw.Shuffle(len(out), func(i, k int) { out[i], out[k] = out[k], out[i] })
	return out
}

// Whatever was written where, and in whatever order it comes, all desks have the same at last.
func TestJ4SameAtLast(t *testing.T) {
	draw := rand.New(rand.NewSource(4))
	for range 40 {
		w := meeting{desks: []api.Desk{newDesk(t, 0), newDesk(t, 1), newDesk(t, 2), newDesk(t, 3)}}
		// So few that all may wait at once.
		for len(w.notes) < api.MaxWaiting {
			w.happen(t, draw)
		}
		want := receive(t, newDesk(t, 4), w.notes...)
		w.desks = append(w.desks, newDesk(t, 4), newDesk(t, 4))
		for who, d := range w.desks {
			got := receive(t, d, drawOrder(draw, w.notes)...)
			if !same(got.State, want.State) || !slices.Equal(got.Seen, want.Seen) || len(got.Waits) != 0 {
				t.Fatalf("desk %d: %q, seen %v, and not %q, seen %v", who, textOf(got), got.Seen, textOf(want), want.Seen)
			}
		}
	}
}

// The example of the document: a sign that is taken ahead of its coming never comes.
func TestJ4Example(t *testing.T) {
	zero := checkType(t, newDesk(t, 0), 0, "hi")
	one := receive(t, newDesk(t, 1), zero.Out...)
	one = checkType(t, one, 1, "a")
	zero = checkCut(t, zero, 1, 1)
	zero = receive(t, zero, one.Out...)
	one = receive(t, one, zero.Out...)
	notes := slices.Concat(zero.Out, one.Out)
	slices.Reverse(notes)
	two := receive(t, newDesk(t, 2), notes...)
	for _, d := range []api.Desk{zero, one, two} {
		if textOf(d) != "ha" || !slices.Equal(d.Seen, needs(2, 1, 0, 0, 0)) {
			t.Errorf("%+v", d)
		}
	}
	early := note(3, 1, needs(0, 0, 0, 0, 0), take(zero.Out[0].Deeds[0].Run.Mark, 1))
	if d := receive(t, newDesk(t, 4), early, zero.Out[0]); textOf(d) != "i" {
		t.Errorf("%+v", d)
	}
}

// All orders of few notes.
func TestJ4AllOrders(t *testing.T) {
	a := note(0, 1, needs(0, 0, 0, 0, 0), put(of(1, 3, 0), "hi"))
	notes := []api.Note{
		a,
		note(0, 2, needs(1, 0, 0, 0, 0), put(of(3, 9, 0), "ho")),
		note(1, 1, needs(1, 0, 0, 0, 0), take(of(2, 4, 0), 1), put(of(1, 4, 0, 1, 1), "e")),
		note(2, 1, needs(2, 1, 0, 0, 0), put(of(1, 20, 2), "!")),
		note(3, 1, needs(0, 0, 0, 0, 0), take(of(4, 10, 0), 1)),
	}
	var all func(d api.Desk, left []api.Note)
	all = func(d api.Desk, left []api.Note) {
		for i, n := range left {
			all(receive(t, d, n, n), slices.Delete(slices.Clone(left), i, i+1))
		}
		if len(left) == 0 && (textOf(d) != "heh!" || !slices.Equal(d.Seen, needs(2, 1, 1, 1, 0)) || len(d.Waits) != 0) {
			t.Fatalf("%+v", d)
		}
	}
	all(newDesk(t, 4), notes)
}
