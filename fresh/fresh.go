// Package fresh: copies that share no memory with what they are copies of.
package fresh

import (
	"slices"

	"commonplace/api"
)

// Mark: a copy of one.
func Mark(m api.Mark) api.Mark {
	return api.Mark{Path: slices.Clone(m.Path), Clock: m.Clock}
}

// Note: a copy of one.
func Note(n api.Note) api.Note {
	n.Needs = slices.Clone(n.Needs)
	n.Deeds = list(n.Deeds, deed)
	return n
}

// Notes: a copy of a list of them.
func Notes(l []api.Note) []api.Note { return list(l, Note) }

// World: a copy of one.
func World(w api.World) api.World {
	return api.World{Clients: list(w.Clients, client), Relay: api.Relay{Log: Notes(w.Relay.Log)}}
}

// Desk: a copy of one.
func Desk(d api.Desk) api.Desk {
	d.State.Atoms = list(d.State.Atoms, atom)
	d.State.Gone = list(d.State.Gone, Mark)
	d.Seen = slices.Clone(d.Seen)
	d.Waits = Notes(d.Waits)
	d.Out = Notes(d.Out)
	return d
}

func client(c api.Client) api.Client {
	c.Desk = Desk(c.Desk)
	return c
}

func atom(a api.Atom) api.Atom {
	a.Mark = Mark(a.Mark)
	return a
}

func deed(d api.Deed) api.Deed {
	d.Run.Mark = Mark(d.Run.Mark)
	d.Mark = Mark(d.Mark)
	return d
}

// list: a copy of one, each thing of it copied by one.
func list[T any](l []T, one func(T) T) []T {
	out := slices.Clone(l)
	for i, x := range l {
		out[i] = one(x)
	}
	return out
}
