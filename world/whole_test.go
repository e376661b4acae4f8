package world_test

import (
	"math/rand"
	"slices"
	"testing"

	"commonplace/api"
	"commonplace/atom"
	"commonplace/caret"
	"commonplace/diff"
	"commonplace/mark"
	"commonplace/run"
	"commonplace/state"
	"commonplace/wire"
)

// day: a world in which much has happened, and which is settled.
func day(t *testing.T, draw *rand.Rand) api.World {
	t.Helper()
	w := newWorld(t, 4)
	for range 120 {
		w = do(t, w, drawHappening(draw, w))
	}
	return settle(t, w)
}

// days: what is promised of the whole holds of each.
func days(t *testing.T, check func(draw *rand.Rand, w api.World)) {
	t.Helper()
	draw := rand.New(rand.NewSource(6))
	for range 10 {
		check(draw, day(t, draw))
	}
}

// Chapter 1: between any two signs that stand side by side there is room, however often.
func TestWholeMarks(t *testing.T) {
	days(t, func(draw *rand.Rand, w api.World) {
		l := w.Clients[0].Desk.State.Atoms
		for i := 1; i < len(l); i++ {
			a, b := l[i-1].Mark, l[i].Mark
			for clock := 9000; len(a.Path) <= api.MaxDepth-2 && len(b.Path) <= api.MaxDepth-2 && clock < 9020; clock++ {
				got, e := mark.Between(a, b, 2, clock, 1)
				if e != api.OK || mark.Order(a, got[0]) >= 0 || mark.Order(got[0], b) >= 0 {
					t.Fatalf("%v, %v: %v, %d", a, b, got, e)
				}
				if draw.Intn(2) == 0 {
					a = got[0]
				} else {
					b = got[0]
				}
			}
		}
	})
}

// Chapters 2 and 3: atoms that are put in whatever order, and runs of them, are the atoms that they were.
func TestWholeAtomsAndRuns(t *testing.T) {
	days(t, func(draw *rand.Rand, w api.World) {
		l := w.Clients[0].Desk.State.Atoms
		var got, ofRuns []api.Atom
		for _, i := range draw.Perm(len(l)) {
			got, _ = atom.Put(got, l[i:i+1])
		}
		runs, _ := run.Runs(l)
		for _, r := range runs {
			part, _ := run.Atoms(r)
			ofRuns = append(ofRuns, part...)
		}
		if !same(got, l) || !same(ofRuns, l) {
			t.Fatalf("%v, put %v, of runs %v", l, got, ofRuns)
		}
	})
}

// Chapter 4: all deeds of all notes, in whatever order, make the same state; what is gone never comes back.
func TestWholeDeeds(t *testing.T) {
	days(t, func(draw *rand.Rand, w api.World) {
		var deeds []api.Deed
		for _, n := range w.Relay.Log {
			deeds = append(deeds, n.Deeds...)
		}
		want := w.Clients[0].Desk.State
		for range 3 {
			draw.Shuffle(len(deeds), func(i, k int) { deeds[i], deeds[k] = deeds[k], deeds[i] })
			got, e := state.All(api.State{}, deeds)
			again, f := state.All(got, deeds)
			if e != api.OK || f != api.OK || !same(got, want) || !same(again, want) {
				t.Fatalf("%d, %d: %v, then %v, and must be %v", e, f, got, again, want)
			}
		}
	})
}

// Chapters 5 and 6: what is put stands where it was put; a caret stays behind its sign.
func TestWholeEditsAndCarets(t *testing.T) {
	days(t, func(draw *rand.Rand, w api.World) {
		was := w.Clients[1].Desk.State
		text := textOf(w.Clients[1].Desk)
		at := draw.Intn(len(text) + 1)
		place := draw.Intn(len(text) + 1)
		c, _ := caret.Of(was, place)
		w = do(t, w, put(1, at, "[new]"))
		if got := textOf(w.Clients[1].Desk); got != text[:at]+"[new]"+text[at:] {
			t.Fatalf("%q at %d is %q", text, at, got)
		}
		w = do(t, w, put(0, draw.Intn(len(text)+1), "{other}"))
		w = settle(t, w)
		for who, x := range w.Clients {
			l := x.Desk.State.Atoms
			got, e := caret.At(x.Desk.State, c)
			if e != api.OK || (place == 0) != (got == 0) || place > 0 && mark.Order(l[got-1].Mark, c) != 0 {
				t.Fatalf("client %d: a caret behind %v is at %d of %q, %d", who, c, got, textOf(x.Desk), e)
			}
		}
	})
}

// Chapter 7: the way from a text of one day to that of another one.
func TestWholeWays(t *testing.T) {
	last := ""
	days(t, func(draw *rand.Rand, w api.World) {
		text := textOf(w.Clients[0].Desk)
		way, _ := diff.Diff(last, text)
		if got, e := diff.Play(last, way); e != api.OK || got != text {
			t.Fatalf("from %q to %q it is %q, %d", last, text, got, e)
		}
		if none, e := diff.Diff(text, text); e != api.OK || len(none) != 0 {
			t.Fatalf("%q: %v, %d", text, none, e)
		}
		last = text
	})
}

// Chapter 8: each note that was told is decoded as it was.
func TestWholeNotes(t *testing.T) {
	days(t, func(draw *rand.Rand, w api.World) {
		for _, n := range w.Relay.Log {
			told, _ := wire.Encode(n)
			if got, e := wire.Decode(told); e != api.OK || !same(got, n) {
				t.Fatalf("%+v, %d, and must be %+v", got, e, n)
			}
		}
	})
}

// Chapters 10 to 12: the notes of the log, in whatever order they come to the relay as long as each site's are in order, make the same text.
func TestWholeOrders(t *testing.T) {
	days(t, func(draw *rand.Rand, w api.World) {
		other := newWorld(t, 5)
		left := slices.Clone(w.Relay.Log)
		next := make([]int, api.MaxSites)
		for len(left) > 0 {
			site := left[draw.Intn(len(left))].Site
			at := slices.IndexFunc(left, func(n api.Note) bool { return n.Site == site && n.Number == next[site]+1 })
			next[site]++
			other.Relay.Log = append(other.Relay.Log, left[at])
			left = slices.Delete(left, at, at+1)
		}
		d := do(t, other, pull(4, api.MaxLog)).Clients[4].Desk
		if !same(d.State, w.Clients[0].Desk.State) || len(d.Waits) != 0 {
			t.Fatalf("%q, and must be %q; %d wait", textOf(d), textOf(w.Clients[0].Desk), len(d.Waits))
		}
	})
}
