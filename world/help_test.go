package world_test

import (
	"fmt"
	"slices"
	"strings"
	"testing"

	"commonplace/api"
	"commonplace/world"
)

// of: a mark of one step.
func of(digit, site, clock int) api.Mark {
	return api.Mark{Path: []api.Step{{Digit: digit, Site: site}}, Clock: clock}
}

// atoms of two steps each, so many, of site 4.
func atoms(many int) []api.Atom {
	var out []api.Atom
	for i := range many {
		path := []api.Step{{Digit: 1 + i/100, Site: 4}, {Digit: 1 + i%100, Site: 4}}
		out = append(out, api.Atom{Mark: api.Mark{Path: path, Clock: 1}, Sign: 'x'})
	}
	return out
}

// note of a site, that number, which needs nothing of others and puts a sign.
func note(site, number int) api.Note {
	needs := make([]int, api.MaxSites)
	needs[site] = number - 1
	run := api.Run{Mark: of(1+number%200, site, number), Text: "n"}
	return api.Note{Site: site, Number: number, Needs: needs, Deeds: []api.Deed{{Kind: api.DeedPut, Run: run}}}
}

// notes of a site, from a number on, up to one.
func notes(site, from, to int) []api.Note {
	var out []api.Note
	for number := from; number <= to; number++ {
		out = append(out, note(site, number))
	}
	return out
}

func put(who, at int, text string) api.Happening {
	return api.Happening{Kind: api.HappenPut, Who: who, At: at, Text: text}
}

func take(who, at, many int) api.Happening {
	return api.Happening{Kind: api.HappenTake, Who: who, At: at, Many: many}
}

func send(who int) api.Happening { return api.Happening{Kind: api.HappenSend, Who: who} }

func pull(who, many int) api.Happening {
	return api.Happening{Kind: api.HappenPull, Who: who, Many: many}
}

func write(who int, text string) api.Happening {
	return api.Happening{Kind: api.HappenWrite, Who: who, Text: text}
}

// lost: a happening of which something is lost.
func lost(h api.Happening) api.Happening {
	h.Lost = true
	return h
}

// text of a name and numbers.
func text(l ...any) string { return fmt.Sprintln(l...) }

func xs(n int) string { return strings.Repeat("x", n) }

func textOf(d api.Desk) string {
	var out []byte
	for _, a := range d.State.Atoms {
		out = append(out, a.Sign)
	}
	return string(out)
}

func texts(w api.World) []string {
	var out []string
	for _, c := range w.Clients {
		out = append(out, textOf(c.Desk))
	}
	return out
}

// same: lists without elements are the same, nil or not.
func same(a, b any) bool { return fmt.Sprintf("%+v", a) == fmt.Sprintf("%+v", b) }

func isZero(w api.World) bool { return same(w, api.World{}) }

// newWorld of so many clients.
func newWorld(t *testing.T, clients int) api.World {
	t.Helper()
	w, e := world.New(clients)
	if e != api.OK {
		t.Fatalf("%d clients: %d", clients, e)
	}
	return w
}

// do happenings, one behind the other, none of which has an error.
func do(t *testing.T, w api.World, l ...api.Happening) api.World {
	t.Helper()
	for _, h := range l {
		got, e := world.Do(w, h)
		if e != api.OK {
			t.Fatalf("%+v: %d", h, e)
		}
		if e := world.Check(got); e != api.OK {
			t.Fatalf("%+v: Check: %d", h, e)
		}
		w = got
	}
	return w
}

// stays: a happening changes nothing.
func stays(t *testing.T, name string, w api.World, h api.Happening) {
	t.Helper()
	if got := do(t, w, h); !same(got, w) {
		t.Errorf("%s: the world is now %+v", name, got)
	}
}

// with: a world, one client of which is another one.
func with(w api.World, who int, change func(c *api.Client)) api.World {
	w.Clients = slices.Clone(w.Clients)
	change(&w.Clients[who])
	return w
}

// right: a world of three that has something of all: notes Out, one of them at the relay already, notes that are not pulled yet, and one that waits.
func right(t *testing.T) api.World {
	t.Helper()
	w := do(t, newWorld(t, 3), put(0, 0, "hello"), send(0), pull(1, 9), put(1, 2, "XX"), take(0, 1, 2), lost(send(0)),
		send(1), pull(2, 1), write(2, "help"), put(2, 0, "so "), take(1, 1, 1))
	return with(w, 2, func(c *api.Client) {
		c.Desk.Waits = []api.Note{note(4, 3)}
	})
}

type wrongWorld struct {
	w    api.World
	want api.Errno
}

// wrongWorlds that Check refuses, and why.
func wrongWorlds(t *testing.T) map[string]wrongWorld {
	out := map[string]wrongWorld{}
	add := func(name string, want api.Errno, change func(w *api.World)) {
		w := right(t)
		change(&w)
		out[name] = wrongWorld{w, want}
	}
	add("nothing", api.ErrRange, func(w *api.World) { *w = api.World{} })
	add("no clients", api.ErrRange, func(w *api.World) { w.Clients = nil })
	add("six clients", api.ErrRange, func(w *api.World) { w.Clients = make([]api.Client, 6) })
	add("no desk", api.ErrForm, func(w *api.World) { w.Clients[0].Desk = api.Desk{} })
	add("the last desk: no site", api.ErrRange, func(w *api.World) { w.Clients[2].Desk.Site = 5 })
	add("the last desk: no sign", api.ErrRange, func(w *api.World) { w.Clients[2].Desk.State.Atoms[0].Sign = 9 })
	add("the last desk: too many atoms", api.ErrMany, func(w *api.World) { w.Clients[2].Desk.State.Atoms = atoms(301) })
	add("the last desk: its clock", api.ErrState, func(w *api.World) { w.Clients[2].Desk.Clock = 1 })
	add("the last desk: no kind", api.ErrKind, func(w *api.World) { w.Clients[2].Desk.Out[0].Deeds[0].Kind = 0 })
	add("places", api.ErrState, func(w *api.World) { w.Clients[0], w.Clients[1] = w.Clients[1], w.Clients[0] })
	add("one is missing", api.ErrState, func(w *api.World) { w.Clients = w.Clients[1:] })
	add("one twice", api.ErrState, func(w *api.World) { w.Clients[1] = w.Clients[0] })
	add("cursor below 0", api.ErrRange, func(w *api.World) { w.Clients[2].Cursor = -1 })
	add("cursor beyond", api.ErrRange, func(w *api.World) { w.Clients[2].Cursor = len(w.Relay.Log) + 1 })
	add("cursor beyond a shorter log", api.ErrRange, func(w *api.World) { w.Relay.Log, w.Clients[1].Cursor = w.Relay.Log[:1], 2 })
	add("relay: too many", api.ErrMany, func(w *api.World) { w.Relay.Log = notes(0, 1, 301) })
	add("relay: no site", api.ErrRange, func(w *api.World) { w.Relay.Log[1].Site = 9 })
	add("relay: no deeds", api.ErrForm, func(w *api.World) { w.Relay.Log[2].Deeds = nil })
	add("relay: one twice", api.ErrState, func(w *api.World) { w.Relay.Log = append(w.Relay.Log, w.Relay.Log[0]) })
	return out
}
