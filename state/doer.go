package state

import (
	"slices"

	"commonplace/api"
	"commonplace/atom"
	"commonplace/fresh"
	"commonplace/mark"
	"commonplace/run"
)

// doer: who does deeds, to a state that is its own.
type doer struct{ api.State }

// doerOf a state that is right; it shares nothing with it.
func doerOf(s api.State) *doer {
	w := &doer{}
	w.Atoms, _ = atom.Put(s.Atoms, nil)
	for _, m := range s.Gone {
		w.Gone = append(w.Gone, fresh.Mark(m))
	}
	return w
}

// do a deed that is right.
func (w *doer) do(d api.Deed) api.Errno {
	if d.Kind == api.DeedPut {
		return w.put(d.Run)
	}
	return w.take(d.Mark, d.Many)
}

func (w *doer) put(r api.Run) api.Errno {
	come, _ := run.Atoms(r)
	come = slices.DeleteFunc(come, func(a api.Atom) bool {
		_, gone := w.find(a.Mark)
		return gone
	})
	var e api.Errno
	w.Atoms, e = atom.Put(w.Atoms, come)
	return e
}

// find a mark among those that are Gone: where it is, or is to stand.
func (w *doer) find(m api.Mark) (at int, found bool) {
	return slices.BinarySearchFunc(w.Gone, m, mark.Order)
}

func (w *doer) take(first api.Mark, many int) api.Errno {
	var named []api.Mark
	for i := range many {
		m, _ := mark.Next(first, i)
		named = append(named, m)
	}
	w.Atoms, _ = atom.Take(w.Atoms, named)
	for _, m := range named {
		if at, found := w.find(m); !found {
			w.Gone = slices.Insert(w.Gone, at, m)
		}
	}
	if len(w.Gone) > api.MaxGone {
		return api.ErrMany
	}
	return api.OK
}
