package desk_test

import (
	"fmt"
	"slices"
	"strings"
	"testing"

	"commonplace/api"
	"commonplace/desk"
)

// of: a mark of digits, each with its site, with a clock.
func of(clock int, l ...int) api.Mark {
	out := api.Mark{Clock: clock}
	for i := 0; i+1 < len(l); i += 2 {
		out.Path = append(out.Path, api.Step{Digit: l[i], Site: l[i+1]})
	}
	return out
}

// more: the mark whose last digit and clock are more by so many.
func more(m api.Mark, by int) api.Mark {
	path := slices.Clone(m.Path)
	path[len(path)-1].Digit += by
	return api.Mark{Path: path, Clock: m.Clock + by}
}

// deep: a mark of so many steps, all of them digit 1 of a site.
func deep(steps, site int) api.Mark {
	return api.Mark{Path: slices.Repeat([]api.Step{{Digit: 1, Site: site}}, steps), Clock: 1}
}

// atoms that are Next one of the other, the signs of a text.
func atoms(first api.Mark, text string) []api.Atom {
	var out []api.Atom
	for i := range len(text) {
		out = append(out, api.Atom{Mark: more(first, i), Sign: text[i]})
	}
	return out
}

// apart: the signs of a text, none of which is in a run with another one; all of site 0.
func apart(text string) []api.Atom {
	var out []api.Atom
	for i := range len(text) {
		out = append(out, api.Atom{Mark: of(1, 1+i/100, 0, 1+i%100, 0), Sign: text[i]})
	}
	return out
}

// gone: so many marks of site 0.
func gone(many int) []api.Mark {
	var out []api.Mark
	for i := range many {
		out = append(out, of(1, 200, 0, 1+i/100, 0, 1+i%100, 0))
	}
	return out
}

func put(m api.Mark, text string) api.Deed {
	return api.Deed{Kind: api.DeedPut, Run: api.Run{Mark: m, Text: text}}
}

func take(m api.Mark, many int) api.Deed {
	return api.Deed{Kind: api.DeedTake, Mark: m, Many: many}
}

func needs(l ...int) []int { return l }

func note(site, number int, needs []int, deeds ...api.Deed) api.Note {
	return api.Note{Site: site, Number: number, Needs: needs, Deeds: deeds}
}

func xs(n int) string { return strings.Repeat("x", n) }

func textOf(d api.Desk) string {
	var out []byte
	for _, a := range d.State.Atoms {
		out = append(out, a.Sign)
	}
	return string(out)
}

// same: lists without elements are the same, nil or not.
func same(a, b any) bool { return fmt.Sprintf("%+v", a) == fmt.Sprintf("%+v", b) }

func isZero(d api.Desk) bool { return same(d, api.Desk{}) }

// newDesk of a site.
func newDesk(t *testing.T, site int) api.Desk {
	t.Helper()
	d, e := desk.New(site)
	if e != api.OK {
		t.Fatalf("site %d: %d", site, e)
	}
	return d
}

// withText: a new desk of a site, with atoms of others.
func withText(t *testing.T, site int, l []api.Atom) api.Desk {
	d := newDesk(t, site)
	d.State.Atoms = l
	return d
}

// right: a desk of site 1 that has something of all: own signs that are there and gone, notes that wait, notes that are Out.
func right() api.Desk {
	return api.Desk{
		Site: 1,
		State: api.State{
			Atoms: slices.Concat(atoms(of(1, 3, 0), "hi"), atoms(of(1, 50, 1), "yo"), atoms(of(1, 90, 3), "!")),
			Gone:  []api.Mark{of(3, 52, 1), of(9, 95, 3), of(9, 100, 1)},
		},
		Seen: needs(2, 3, 0, 1, 0),
		Waits: []api.Note{
			note(0, 4, needs(3, 3, 0, 0, 0), put(of(3, 5, 0), "ab")),
			note(0, 5, needs(4, 0, 0, 0, 0), take(of(3, 5, 0), 1)),
			note(2, 1, needs(2, 2, 0, 2, 0), put(of(1, 60, 2), "c"), take(of(4, 53, 1), 2), put(of(20, 61, 2), "d")),
		},
		Clock: 10,
		Out: []api.Note{
			note(1, 2, needs(1, 1, 0, 0, 0), put(of(1, 50, 1), "yo")),
			note(1, 3, needs(2, 2, 0, 1, 0), take(of(3, 52, 1), 1), take(of(9, 95, 3), 1)),
		},
	}
}

type wrongDesk struct {
	d    api.Desk
	want api.Errno
}

// changed: right, changed.
func changed(change func(d *api.Desk)) api.Desk {
	d := right()
	change(&d)
	return d
}

// wrongDesks that Check refuses, and why.
func wrongDesks() map[string]wrongDesk {
	out := map[string]wrongDesk{}
	add := func(name string, want api.Errno, change func(d *api.Desk)) {
		out[name] = wrongDesk{changed(change), want}
	}
	add("nothing", api.ErrForm, func(d *api.Desk) { *d = api.Desk{} })
	add("site below 0", api.ErrRange, func(d *api.Desk) { d.Site = -1 })
	add("site 5", api.ErrRange, func(d *api.Desk) { d.Site = 5 })
	add("another site", api.ErrState, func(d *api.Desk) { d.Site = 4 })
	add("no sign", api.ErrRange, func(d *api.Desk) { d.State.Atoms[0].Sign = 31 })
	add("atoms not rising", api.ErrState, func(d *api.Desk) { slices.Reverse(d.State.Atoms) })
	add("too many atoms", api.ErrMany, func(d *api.Desk) { d.State.Atoms = apart(xs(301)) })
	add("too many gone", api.ErrMany, func(d *api.Desk) { d.State.Gone = gone(601) })
	add("gone and there", api.ErrState, func(d *api.Desk) { d.State.Gone[0] = of(2, 51, 1) })
	add("gone without steps", api.ErrForm, func(d *api.Desk) { d.State.Gone[0] = api.Mark{} })
	add("nothing seen", api.ErrForm, func(d *api.Desk) { d.Seen = nil })
	add("seen of four", api.ErrForm, func(d *api.Desk) { d.Seen = d.Seen[:4] })
	add("seen below 0", api.ErrRange, func(d *api.Desk) { d.Seen[4] = -1 })
	add("seen 501", api.ErrRange, func(d *api.Desk) { d.Seen[4] = 501 })
	add("41 wait", api.ErrMany, func(d *api.Desk) { d.Waits = make([]api.Note, 41) })
	add("501 out", api.ErrMany, func(d *api.Desk) { d.Out = make([]api.Note, 501) })
	add("a wrong note waits", api.ErrKind, func(d *api.Desk) { d.Waits[2].Deeds[1].Kind = 0 })
	add("a wrong note is out", api.ErrForm, func(d *api.Desk) { d.Out[1].Deeds = nil })
	add("clock 10002", api.ErrRange, func(d *api.Desk) { d.Clock = 10002 })
	for name, change := range wrongStates() {
		add(name, api.ErrState, change)
	}
	return out
}

// wrongStates: changes of right that make of it a desk that is not as it must be.
func wrongStates() map[string]func(d *api.Desk) {
	return map[string]func(d *api.Desk){
		"waits fall by site":          func(d *api.Desk) { d.Waits[1], d.Waits[2] = d.Waits[2], d.Waits[1] },
		"waits fall by number":        func(d *api.Desk) { d.Waits[0], d.Waits[1] = d.Waits[1], d.Waits[0] },
		"one waits twice":             func(d *api.Desk) { d.Waits[1] = d.Waits[0] },
		"its own waits":               func(d *api.Desk) { d.Waits = []api.Note{note(1, 4, needs(9, 3, 0, 0, 0), take(of(1, 3, 0), 1))} },
		"its own, seen, waits":        func(d *api.Desk) { d.Waits = []api.Note{note(1, 3, needs(9, 2, 0, 0, 0), take(of(1, 3, 0), 1))} },
		"the last one seen waits":     func(d *api.Desk) { d.Waits = []api.Note{note(0, 2, needs(1, 0, 9, 0, 0), take(of(1, 3, 0), 1))} },
		"one seen long ago waits":     func(d *api.Desk) { d.Waits = []api.Note{note(0, 1, needs(0, 0, 9, 0, 0), take(of(1, 3, 0), 1))} },
		"one needs what is not yet":   func(d *api.Desk) { d.Waits[1].Needs[1] = 4 },
		"the last one needs too much": func(d *api.Desk) { d.Waits[2].Needs[1] = 500 },
		"the first one is ready":      func(d *api.Desk) { d.Seen[0] = 3 },
		"the last one is ready":       func(d *api.Desk) { d.Seen[3] = 2 },
		"ready, and more than that":   func(d *api.Desk) { d.Seen[3], d.Seen[4] = 500, 500 },
		"another site's is out":       func(d *api.Desk) { d.Out[1] = note(0, 3, needs(2, 0, 0, 0, 0), take(of(1, 3, 0), 1)) },
		"out is not the last":         func(d *api.Desk) { d.Seen[1] = 4 },
		"out is not seen":             func(d *api.Desk) { d.Waits, d.Seen[1] = nil, 2 },
		"out is more than seen":       func(d *api.Desk) { d.Waits, d.Seen[1] = nil, 0 },
		"out falls":                   func(d *api.Desk) { slices.Reverse(d.Out) },
		"out twice":                   func(d *api.Desk) { d.Out[0] = d.Out[1] },
		"the last one is not out":     func(d *api.Desk) { d.Out = d.Out[:1] },
		"one between is not out":      func(d *api.Desk) { d.Out[0].Number, d.Out[0].Needs[1] = 1, 0 },
		"a clock is used":             func(d *api.Desk) { d.Clock = 9 },
		"a clock is used, clock 0":    func(d *api.Desk) { d.Clock = 0 },
		"a clock is used, below 0":    func(d *api.Desk) { d.Clock = -1 },
	}
}
