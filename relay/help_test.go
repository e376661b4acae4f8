package relay_test

import (
	"fmt"

	"commonplace/api"
)

// of: a mark of one step.
func of(digit, site, clock int) api.Mark {
	return api.Mark{Path: []api.Step{{Digit: digit, Site: site}}, Clock: clock}
}

// note of a site, that number, which needs nothing of others.
func note(site, number int) api.Note {
	needs := make([]int, api.MaxSites)
	needs[site] = number - 1
	return api.Note{Site: site, Number: number, Needs: needs, Deeds: []api.Deed{
		{Kind: api.DeedPut, Run: api.Run{Mark: of(1+number%100, site, number), Text: "ab"}},
		{Kind: api.DeedTake, Mark: of(3, 4, 1), Many: 2},
	}}
}

// logOf notes of sites: the next one of each.
func logOf(sites ...int) api.Relay {
	var r api.Relay
	next := make([]int, api.MaxSites)
	for _, site := range sites {
		next[site]++
		r.Log = append(r.Log, note(site, next[site]))
	}
	return r
}

// evenly: so many notes, of all sites in turn.
func evenly(many int) api.Relay {
	var sites []int
	for i := range many {
		sites = append(sites, i%api.MaxSites)
	}
	return logOf(sites...)
}

// changed: a note, changed.
func changed(n api.Note, change func(n *api.Note)) api.Note {
	change(&n)
	return n
}

// wrongNotes, each of which would be the next one of site 0 behind another one, and what is wrong with them.
func wrongNotes() map[string]wrongNote {
	out := map[string]wrongNote{}
	add := func(name string, want api.Errno, change func(n *api.Note)) {
		out[name] = wrongNote{changed(note(0, 2), change), want}
	}
	add("nothing", api.ErrRange, func(n *api.Note) { *n = api.Note{} })
	add("site below 0", api.ErrRange, func(n *api.Note) { n.Site = -1 })
	add("site 5", api.ErrRange, func(n *api.Note) { n.Site = 5 })
	add("number 0", api.ErrRange, func(n *api.Note) { n.Number = 0 })
	add("number 501", api.ErrRange, func(n *api.Note) { n.Number, n.Needs[0] = 501, 500 })
	add("needs of four", api.ErrForm, func(n *api.Note) { n.Needs = n.Needs[:4] })
	add("needs below 0", api.ErrRange, func(n *api.Note) { n.Needs[3] = -1 })
	add("needs itself", api.ErrState, func(n *api.Note) { n.Needs[0] = 2 })
	add("no deeds", api.ErrForm, func(n *api.Note) { n.Deeds = nil })
	add("21 deeds", api.ErrMany, func(n *api.Note) { n.Deeds = make([]api.Deed, 21) })
	add("no kind", api.ErrKind, func(n *api.Note) { n.Deeds[1].Kind = 3 })
	add("a run of nothing", api.ErrForm, func(n *api.Note) { n.Deeds[0].Run.Text = "" })
	return out
}

type wrongNote struct {
	n    api.Note
	want api.Errno
}

// same: lists without elements are the same, nil or not.
func same(a, b any) bool { return fmt.Sprintf("%+v", a) == fmt.Sprintf("%+v", b) }
