package world_test

import (
	"math/rand"
	"slices"
	"testing"

	"commonplace/api"
	"commonplace/state"
	"commonplace/world"
)

// settle a world that is right.
func settle(t *testing.T, w api.World) api.World {
	t.Helper()
	got, e := world.Settle(w)
	if e != api.OK {
		t.Fatalf("%d", e)
	}
	if e := world.Check(got); e != api.OK {
		t.Fatalf("Check: %d", e)
	}
	return got
}

// settledByHand: by happenings, one behind the other.
func settledByHand(t *testing.T, w api.World) api.World {
	t.Helper()
	for who := range w.Clients {
		for len(w.Clients[who].Desk.Out) > 0 {
			next := do(t, w, send(who))
			if same(next, w) {
				break
			}
			w = next
		}
	}
	for who := range w.Clients {
		w = do(t, w, pull(who, api.MaxLog))
	}
	return w
}

func TestL2Settle(t *testing.T) {
	refused := do(t, newWorld(t, 3), put(0, 0, "a"), put(0, 0, "b"), put(1, 0, "c"), put(2, 0, "d"))
	refused.Clients[0].Desk.Out = refused.Clients[0].Desk.Out[1:]
	room := do(t, newWorld(t, 3), put(0, 0, "a"), put(0, 0, "b"), put(1, 0, "c"), put(1, 0, "d"), put(2, 0, "e"))
	room.Relay.Log = notes(4, 1, 297)
	for who := range room.Clients {
		room.Clients[who].Cursor = 297
	}
	full := with(refused, 1, func(c *api.Client) { c.Desk.State.Atoms = append(atoms(299), c.Desk.State.Atoms...) })
	slices.SortFunc(full.Clients[1].Desk.State.Atoms, func(a, b api.Atom) int {
		return slices.CompareFunc(a.Mark.Path, b.Mark.Path, func(a, b api.Step) int { return a.Digit - b.Digit })
	})
	for name, w := range map[string]api.World{
		"new":                       newWorld(t, 5),
		"alone":                     do(t, newWorld(t, 1), put(0, 0, "a"), put(0, 0, "b")),
		"right":                     right(t),
		"one's notes are refused":   refused,
		"there is no room for all":  room,
		"one can't receive them":    full,
		"nothing is out any longer": do(t, right(t), send(0), send(1), send(1), send(2), send(2)),
	} {
		want := settledByHand(t, w)
		if got := settle(t, w); !same(got, want) {
			t.Errorf("%s: %+v, and must be %+v", name, got, want)
		}
	}
}

// What is told in full, once: who sent, who did not, and what came where.
func TestL2SettleTold(t *testing.T) {
	w := do(t, newWorld(t, 3), put(0, 0, "a"), put(2, 0, "b"), lost(send(2)))
	w.Clients[1].Desk.Out, w.Clients[1].Desk.Seen[1] = []api.Note{note(1, 7)}, 7
	w.Clients[1].Desk.Clock = 9
	got := settle(t, w)
	if len(got.Relay.Log) != 2 || got.Relay.Log[0].Site != 2 || got.Relay.Log[1].Site != 0 {
		t.Errorf("the log: %+v", got.Relay.Log)
	}
	for who, out := range []int{0, 1, 0} {
		c := got.Clients[who]
		if len(c.Desk.Out) != out || c.Cursor != 2 || c.Desk.Seen[0] != 1 || c.Desk.Seen[2] != 1 {
			t.Errorf("client %d: %+v", who, c)
		}
	}
}

// drawHappening of a world, in which much is lost.
func drawHappening(draw *rand.Rand, w api.World) api.Happening {
	who := draw.Intn(len(w.Clients))
	now := textOf(w.Clients[who].Desk)
	switch draw.Intn(8) {
	case 0:
		return put(who, draw.Intn(len(now)+3), drawText(draw, 1+draw.Intn(3)))
	case 1:
		return take(who, draw.Intn(len(now)+3), draw.Intn(4))
	case 2:
		cut := draw.Intn(len(now) + 1)
		left := min(len(now), cut+draw.Intn(4))
		return write(who, now[:cut]+drawText(draw, draw.Intn(3))+now[left:])
	case 3:
		return lost(send(who))
	case 4:
		return lost(pull(who, draw.Intn(5)))
	case 5, 6:
		return pull(who, draw.Intn(5))
	}
	return send(who)
}

func drawText(draw *rand.Rand, many int) string {
	var out []byte
	for range many {
		out = append(out, byte(32+draw.Intn(95)))
	}
	return string(out)
}

// checkSettled: all clients have the same, which is what each note of the log, done once, makes.
func checkSettled(t *testing.T, w api.World) {
	t.Helper()
	var want api.State
	seen := make([]int, api.MaxSites)
	for _, n := range w.Relay.Log {
		want, _ = state.All(want, n.Deeds)
		seen[n.Site]++
	}
	for who, c := range w.Clients {
		d := c.Desk
		if !same(d.State, want) || !slices.Equal(d.Seen, seen) {
			t.Fatalf("client %d: %q, seen %v; of the log it is %d signs, seen %v", who, textOf(d), d.Seen, len(want.Atoms), seen)
		}
		if len(d.Out) != 0 || len(d.Waits) != 0 || c.Cursor != len(w.Relay.Log) {
			t.Fatalf("client %d: %d out, %d wait, cursor %d of %d", who, len(d.Out), len(d.Waits), c.Cursor, len(w.Relay.Log))
		}
	}
}

// Whatever was lost, or came twice, all have the same text at last.
func TestL3SameAtLast(t *testing.T) {
	draw := rand.New(rand.NewSource(12))
	for round := range 60 {
		w := newWorld(t, 1+round%api.MaxSites)
		made := 0
		for range 100 {
			h := drawHappening(draw, w)
			was := len(w.Clients[h.Who].Desk.Out)
			w = do(t, w, h)
			made += max(0, len(w.Clients[h.Who].Desk.Out)-was)
			if draw.Intn(20) == 0 {
				checkSettled(t, settle(t, w))
			}
		}
		w = settle(t, w)
		checkSettled(t, w)
		if len(w.Relay.Log) != made {
			t.Fatalf("%d notes are there, %d were made", len(w.Relay.Log), made)
		}
		if again := settle(t, w); !same(again, w) {
			t.Fatalf("settled twice: %+v", again)
		}
	}
}

// All that was pulled comes once more.
func TestL3CameTwice(t *testing.T) {
	w := settle(t, right(t))
	again := w
	for who := range w.Clients {
		again = with(again, who, func(c *api.Client) { c.Cursor = 0 })
	}
	if got := settle(t, again); !same(got, w) {
		t.Errorf("%+v, and must be %+v", got, w)
	}
	// Each note comes to the relay again and again, and none of its tellings comes back.
	w = do(t, newWorld(t, 2), put(0, 0, "ab"), lost(send(0)), lost(send(0)), pull(1, 9), lost(send(0)), put(1, 1, "c"), lost(send(1)), lost(send(1)))
	w = settle(t, w)
	checkSettled(t, w)
	if l := texts(w); l[0] != "acb" || len(w.Relay.Log) != 2 {
		t.Errorf("%q, %d notes", l, len(w.Relay.Log))
	}
}

// Without room for all, what does not come to the relay stays where it was made.
func TestL3NoRoom(t *testing.T) {
	w := newWorld(t, 2)
	for range 4 {
		for range 80 {
			w = do(t, w, put(0, 0, "a"), take(0, 0, 1))
		}
		w = settle(t, w)
	}
	if len(w.Relay.Log) != api.MaxLog || len(w.Clients[0].Desk.Out) != 500-300 || w.Clients[1].Desk.Seen[0] != 300 {
		t.Errorf("%d notes, %d out, seen %v", len(w.Relay.Log), len(w.Clients[0].Desk.Out), w.Clients[1].Desk.Seen)
	}
}

// The example of the document.
func TestL3Example(t *testing.T) {
	w := do(t, newWorld(t, 2), put(0, 0, "hi"), send(0), pull(1, 1), put(1, 1, "a"), take(0, 1, 1))
	if l := texts(w); l[0] != "h" || l[1] != "hai" {
		t.Errorf("%q", l)
	}
	w = settle(t, w)
	if l := texts(w); l[0] != "ha" || l[1] != "ha" {
		t.Errorf("%q", l)
	}
	checkSettled(t, w)
}

// Without room in a text, a client takes nothing of a pull, and goes on with its own.
func TestL3NoRoomInTexts(t *testing.T) {
	w := newWorld(t, 3)
	for range 3 {
		w = do(t, w, put(0, 300, xs(60)), put(1, 300, xs(60)))
	}
	w = settle(t, w)
	for who, size := range []int{180, 180, 0} {
		c := w.Clients[who]
		if len(c.Desk.State.Atoms) != size || c.Cursor != 0 || len(c.Desk.Out) != 0 {
			t.Errorf("client %d: %d signs, cursor %d, %d out", who, len(c.Desk.State.Atoms), c.Cursor, len(c.Desk.Out))
		}
	}
	w = do(t, w, pull(2, 5))
	if got := len(w.Clients[2].Desk.State.Atoms); got != 300 {
		t.Errorf("%d signs", got)
	}
}
