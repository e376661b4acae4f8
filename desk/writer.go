package desk

import (
	"slices"

	"commonplace/api"
	"commonplace/atom"
	"commonplace/diff"
	"commonplace/edit"
	"commonplace/fresh"
	"commonplace/state"
)

// writer of a note, at a desk that is its own: each of its deeds is done there at once.
type writer struct {
	api.Desk
	deeds []api.Deed
}

// tell the others, in one note, what write does at a desk.
func tell(d api.Desk, write func(w *writer) api.Errno) (api.Desk, api.Errno) {
	if e := Check(d); e != api.OK {
		return api.Desk{}, e
	}
	w := &writer{Desk: fresh.Desk(d)}
	if e := write(w); e != api.OK {
		return api.Desk{}, e
	}
	if e := w.finish(); e != api.OK {
		return api.Desk{}, e
	}
	return w.Desk, api.OK
}

func (w *writer) put(at int, text string) api.Errno {
	// Put would call such a clock a wrong number, not one too many.
	if w.Clock+len(text) > api.MaxClock+1 {
		return api.ErrMany
	}
	deeds, e := edit.Put(w.State, at, text, w.Site, w.Clock)
	if e != api.OK {
		return e
	}
	w.Clock += len(text)
	return w.do(deeds)
}

func (w *writer) take(at, many int) api.Errno {
	deeds, e := edit.Take(w.State, at, many)
	if e != api.OK {
		return e
	}
	return w.do(deeds)
}

// turnInto another text what is there.
func (w *writer) turnInto(text string) api.Errno {
	old, _ := atom.Text(w.State.Atoms)
	edits, e := diff.Diff(old, text)
	if e != api.OK {
		return e
	}
	for _, x := range edits {
		if e := w.edit(x); e != api.OK {
			return e
		}
	}
	return api.OK
}

func (w *writer) edit(x api.Edit) api.Errno {
	if x.Kind == api.EditPut {
		return w.put(x.At, x.Text)
	}
	return w.take(x.At, x.Many)
}

func (w *writer) do(deeds []api.Deed) api.Errno {
	var e api.Errno
	w.State, e = state.All(w.State, deeds)
	w.deeds = append(w.deeds, deeds...)
	return e
}

// finish the note, if there is anything to tell.
func (w *writer) finish() api.Errno {
	number := w.Seen[w.Site] + 1
	switch {
	case len(w.deeds) == 0:
		return api.OK
	case len(w.deeds) > api.MaxDeeds || number > api.MaxNumber:
		return api.ErrMany
	}
	w.Out = append(w.Out, api.Note{Site: w.Site, Number: number, Needs: slices.Clone(w.Seen), Deeds: w.deeds})
	w.Seen[w.Site] = number
	return api.OK
}
