package desk_test

import (
	"math"
	"testing"

	"commonplace/api"
	"commonplace/desk"
)

func TestJ1New(t *testing.T) {
	for site := range api.MaxSites {
		d, e := desk.New(site)
		if e != api.OK || !same(d, api.Desk{Site: site, Seen: make([]int, 5), Clock: 1}) {
			t.Errorf("site %d: %+v, %d", site, d, e)
		}
		if e := desk.Check(d); e != api.OK {
			t.Errorf("site %d: Check: %d", site, e)
		}
	}
	for _, site := range []int{-1, 5, 6, 256, math.MaxInt, math.MinInt} {
		if d, e := desk.New(site); e != api.ErrRange || !isZero(d) {
			t.Errorf("site %d: %+v, %d", site, d, e)
		}
	}
}

func TestJ1Right(t *testing.T) {
	many := []api.Note{}
	for i := range 500 {
		many = append(many, note(1, 1+i, needs(0, i, 0, 0, 0), take(of(1, 3, 0), 1)))
	}
	forty := []api.Note{}
	for i := range 40 {
		forty = append(forty, note(4, 2+i, needs(0, 0, 0, 0, 1+i), take(of(1, 3, 0), 1)))
	}
	for name, change := range map[string]func(d *api.Desk){
		"as it is":                  func(d *api.Desk) {},
		"nothing waits":             func(d *api.Desk) { d.Waits = nil },
		"nothing is out":            func(d *api.Desk) { d.Out = nil },
		"one is out":                func(d *api.Desk) { d.Out = d.Out[1:] },
		"as many are out as may be": func(d *api.Desk) { d.Out, d.Seen[1] = many, 500 },
		"as many wait as may":       func(d *api.Desk) { d.Waits = forty },
		"a clock that is just free": func(d *api.Desk) { d.Clock = 10 },
		"the greatest clock":        func(d *api.Desk) { d.Clock = 10001 },
		"the greatest of all":       func(d *api.Desk) { d.Waits, d.Out, d.Seen = nil, nil, needs(500, 500, 500, 500, 500) },
		"as much as may be":         func(d *api.Desk) { d.State.Atoms, d.State.Gone = apart(xs(300)), gone(600) },
		"it waits for its own site": func(d *api.Desk) { d.Waits[0].Needs[1] = 3 },
		"others' clocks are later":  func(d *api.Desk) { d.State.Atoms[4].Mark.Clock, d.Waits[0].Deeds[0].Run.Mark.Clock = 10000, 9999 },
	} {
		if e := desk.Check(changed(change)); e != api.OK {
			t.Errorf("%s: %d", name, e)
		}
	}
}

func TestJ1Errors(t *testing.T) {
	for name, c := range wrongDesks() {
		if e := desk.Check(c.d); e != c.want {
			t.Errorf("%s: %d", name, e)
		}
	}
	// Without any mark of its own a desk has no clock that is used.
	for _, clock := range []int{0, -1, math.MinInt, 10002, math.MaxInt} {
		d := newDesk(t, 2)
		d.Clock = clock
		if e := desk.Check(d); e != api.ErrRange {
			t.Errorf("clock %d: %d", clock, e)
		}
		d.State.Atoms, d.State.Gone = apart("others"), gone(3)
		d.Waits = waiting(2)
		d.Seen[2], d.Out = 1, []api.Note{note(2, 1, needs(0, 0, 0, 0, 0), take(of(1, 3, 0), 1))}
		if e := desk.Check(d); e != api.ErrRange {
			t.Errorf("clock %d, all of others: %d", clock, e)
		}
	}
}

// Each mark of the desk's own site has a clock that is less than its next one, wherever it is.
func TestJ1Clocks(t *testing.T) {
	for name, set := range map[string]func(d *api.Desk, clock int){
		"of an atom":                func(d *api.Desk, clock int) { d.State.Atoms[3].Mark.Clock = clock },
		"of what is gone":           func(d *api.Desk, clock int) { d.State.Gone[0].Clock = clock },
		"put by what waits":         func(d *api.Desk, clock int) { d.Waits[0].Deeds[0] = put(of(clock, 7, 0, 1, 1), "a") },
		"put in a run":              func(d *api.Desk, clock int) { d.Waits[1].Deeds[0] = put(of(clock-59, 7, 1), xs(60)) },
		"taken by what waits":       func(d *api.Desk, clock int) { d.Waits[2].Deeds[1] = take(of(clock, 53, 1), 1) },
		"taken together":            func(d *api.Desk, clock int) { d.Waits[2].Deeds[1] = take(of(clock-2, 53, 1), 3) },
		"put by what is out":        func(d *api.Desk, clock int) { d.Out[0].Deeds[0] = put(of(clock-1, 50, 1), "yo") },
		"taken by what is out":      func(d *api.Desk, clock int) { d.Out[1].Deeds[0] = take(of(clock, 52, 1), 1) },
		"taken by it, as many":      func(d *api.Desk, clock int) { d.Out[1].Deeds[0] = take(of(clock-59, 52, 1), 60) },
		"of a step that is not one": func(d *api.Desk, clock int) { d.Out[1].Deeds[0] = take(of(clock, 52, 0, 1, 3, 1, 1), 1) },
	} {
		for clock, want := range map[int]api.Errno{99: api.OK, 100: api.ErrState, 101: api.ErrState} {
			d := changed(func(d *api.Desk) { d.Clock = 100; set(d, clock) })
			if e := desk.Check(d); e != want {
				t.Errorf("%s, clock %d: %d", name, clock, e)
			}
		}
	}
	d := changed(func(d *api.Desk) { d.Out[1].Deeds[0] = take(of(10000, 1, 1, 52, 0), 1) })
	if e := desk.Check(d); e != api.OK {
		t.Errorf("its own site's step is not the last one: %d", e)
	}
}

// Where several are wrong the one that is named first tells.
func TestJ1FirstError(t *testing.T) {
	for name, c := range map[string]struct {
		want   api.Errno
		change func(d *api.Desk)
	}{
		"site ahead of state":        {api.ErrRange, func(d *api.Desk) { d.Site, d.State.Atoms = 5, make([]api.Atom, 1) }},
		"state ahead of seen":        {api.ErrState, func(d *api.Desk) { d.State.Gone[1], d.Seen = d.State.Gone[0], nil }},
		"seen ahead of many":         {api.ErrForm, func(d *api.Desk) { d.Seen, d.Waits = nil, make([]api.Note, 41) }},
		"many waits ahead of one":    {api.ErrMany, func(d *api.Desk) { d.Waits = make([]api.Note, 41) }},
		"many out ahead of waits":    {api.ErrMany, func(d *api.Desk) { d.Waits[0], d.Out = api.Note{}, make([]api.Note, 501) }},
		"waits ahead of out":         {api.ErrForm, func(d *api.Desk) { d.Waits[2].Deeds, d.Out[0].Site = nil, 5 }},
		"the first one that waits":   {api.ErrKind, func(d *api.Desk) { d.Waits[1].Deeds[0].Kind, d.Waits[2].Deeds = 3, nil }},
		"out ahead of order":         {api.ErrForm, func(d *api.Desk) { d.Waits[1], d.Out[1].Deeds = d.Waits[0], nil }},
		"a wait ahead of order":      {api.ErrForm, func(d *api.Desk) { d.Waits[1], d.Waits[2].Deeds = d.Waits[0], nil }},
		"out ahead of clock":         {api.ErrForm, func(d *api.Desk) { d.Clock, d.Out[1].Deeds = 9, nil }},
		"order ahead of clock":       {api.ErrState, func(d *api.Desk) { d.Waits[1], d.Clock = d.Waits[0], 10002 }},
		"out's order ahead of clock": {api.ErrState, func(d *api.Desk) { d.Seen[1], d.Clock = 4, 10002 }},
		"used ahead of below 1":      {api.ErrState, func(d *api.Desk) { d.Clock = 0 }},
	} {
		if e := desk.Check(changed(c.change)); e != c.want {
			t.Errorf("%s: %d", name, e)
		}
	}
}

// All calls say first what is wrong with the desk.
func TestJ1FirstOfAllCalls(t *testing.T) {
	good := note(0, 3, needs(2, 0, 0, 0, 0), put(of(9, 30, 0), "n"))
	for name, c := range wrongDesks() {
		check := func(call string, d api.Desk, e api.Errno) {
			if e != c.want || !isZero(d) {
				t.Errorf("%s, %s: %+v, %d", name, call, d, e)
			}
		}
		for _, at := range []int{0, -1, 999} {
			for _, text := range []string{"a", "", "\n", xs(61)} {
				d, e := desk.Type(c.d, at, text)
				check("Type", d, e)
			}
			for _, many := range []int{0, 1, -1, 999} {
				d, e := desk.Cut(c.d, at, many)
				check("Cut", d, e)
			}
		}
		for _, text := range []string{textOf(c.d), "", "\n", xs(301), "hiyo"} {
			d, e := desk.Write(c.d, text)
			check("Write", d, e)
		}
		for _, n := range []api.Note{good, {}, note(1, 1, needs(0, 0, 0, 0, 0), good.Deeds...), note(0, 9, needs(8, 500, 0, 0, 0), good.Deeds...)} {
			d, e := desk.Receive(c.d, n)
			check("Receive", d, e)
		}
		d, e := desk.Taken(c.d)
		check("Taken", d, e)
	}
}
