package desk

import (
	"cmp"
	"slices"

	"commonplace/api"
	"commonplace/fresh"
	"commonplace/seen"
	"commonplace/state"
	"commonplace/wire"
)

// Receive a note.
func Receive(d api.Desk, n api.Note) (api.Desk, api.Errno) {
	if e := cmp.Or(Check(d), wire.Check(n)); e != api.OK {
		return api.Desk{}, e
	}
	at, waits := slices.BinarySearchFunc(d.Waits, n, order)
	switch {
	case n.Site == d.Site || n.Number <= d.Seen[n.Site] || waits:
		return fresh.Desk(d), api.OK
	case n.Needs[d.Site] > d.Seen[d.Site]:
		return api.Desk{}, api.ErrState
	}
	out := fresh.Desk(d)
	out.Waits = slices.Insert(out.Waits, at, fresh.Note(n))
	out.Clock = max(out.Clock, latest(n.Deeds, d.Site)+1)
	// How many wait is asked only when all that is Ready is done: one more may set free many.
	if e := doReady(&out); e != api.OK {
		return api.Desk{}, e
	}
	if len(out.Waits) > api.MaxWaiting {
		return api.Desk{}, api.ErrMany
	}
	return out, api.OK
}

// doReady: what waits is done, the first one that is Ready each time, until none is.
func doReady(d *api.Desk) api.Errno {
	isReady := func(n api.Note) bool {
		ready, _ := seen.Ready(d.Seen, n)
		return ready
	}
	for {
		at := slices.IndexFunc(d.Waits, isReady)
		if at < 0 {
			return api.OK
		}
		n := d.Waits[at]
		var e api.Errno
		if d.State, e = state.All(d.State, n.Deeds); e != api.OK {
			return e
		}
		d.Seen[n.Site] = n.Number
		d.Waits = slices.Delete(d.Waits, at, at+1)
	}
}

// order of notes that wait.
func order(a, b api.Note) int {
	return cmp.Or(cmp.Compare(a.Site, b.Site), cmp.Compare(a.Number, b.Number))
}
