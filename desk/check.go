package desk

import (
	"cmp"
	"slices"

	"commonplace/api"
	"commonplace/seen"
	"commonplace/state"
	"commonplace/wire"
)

// Check a desk.
func Check(d api.Desk) api.Errno {
	if !isSite(d.Site) {
		return api.ErrRange
	}
	if e := cmp.Or(state.Check(d.State), seen.Check(d.Seen)); e != api.OK {
		return e
	}
	if len(d.Waits) > api.MaxWaiting || len(d.Out) > api.MaxNumber {
		return api.ErrMany
	}
	for _, n := range slices.Concat(d.Waits, d.Out) {
		if e := wire.Check(n); e != api.OK {
			return e
		}
	}
	switch {
	case !allMayWait(d) || !allMayGoOut(d) || isClockUsed(d):
		return api.ErrState
	case d.Clock < 1 || d.Clock > api.MaxClock+1:
		return api.ErrRange
	}
	return api.OK
}

func isSite(n int) bool { return n >= 0 && n < api.MaxSites }

func allMayWait(d api.Desk) bool {
	for i, n := range d.Waits {
		if i > 0 && order(d.Waits[i-1], n) >= 0 || !mayWait(d, n) {
			return false
		}
	}
	return true
}

// mayWait: whether a note is one that waits at a desk for notes that are still to come.
func mayWait(d api.Desk, n api.Note) bool {
	ready, _ := seen.Ready(d.Seen, n)
	return n.Site != d.Site && n.Number > d.Seen[n.Site] && n.Needs[d.Site] <= d.Seen[d.Site] && !ready
}

func allMayGoOut(d api.Desk) bool {
	gone := d.Seen[d.Site] - len(d.Out)
	for i, n := range d.Out {
		if n.Site != d.Site || n.Number != gone+i+1 {
			return false
		}
	}
	return true
}

// isClockUsed: whether a desk knows a mark of its own site with its next clock, or a later one.
func isClockUsed(d api.Desk) bool {
	late := func(m api.Mark) bool { return isOf(m, d.Site) && m.Clock >= d.Clock }
	told := func(n api.Note) bool {
		// Clocks are from 1 on: 0 is that there is none.
		last := latest(n.Deeds, d.Site)
		return last > 0 && last >= d.Clock
	}
	return slices.ContainsFunc(d.State.Atoms, func(a api.Atom) bool { return late(a.Mark) }) ||
		slices.ContainsFunc(d.State.Gone, late) ||
		slices.ContainsFunc(d.Waits, told) || slices.ContainsFunc(d.Out, told)
}

// latest clock of all marks of a site in deeds that are right; 0, if there is none.
func latest(deeds []api.Deed, site int) int {
	last := 0
	for _, d := range deeds {
		m, many := d.Mark, d.Many
		if d.Kind == api.DeedPut {
			m, many = d.Run.Mark, len(d.Run.Text)
		}
		if isOf(m, site) {
			last = max(last, m.Clock+many-1)
		}
	}
	return last
}

// isOf: whether a mark that is right is of a site.
func isOf(m api.Mark, site int) bool { return m.Path[len(m.Path)-1].Site == site }
