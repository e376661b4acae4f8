package desk_test

import (
	"slices"
	"testing"

	"commonplace/api"
	"commonplace/desk"
)

// receive notes, one behind the other, none of which has an error.
func receive(t *testing.T, d api.Desk, l ...api.Note) api.Desk {
	t.Helper()
	for _, n := range l {
		got, e := desk.Receive(d, n)
		if e != api.OK {
			t.Fatalf("%+v: %d", n, e)
		}
		if e := desk.Check(got); e != api.OK {
			t.Fatalf("%+v: Check: %d", n, e)
		}
		d = got
	}
	return d
}

// stays: a note changes nothing.
func stays(t *testing.T, name string, d api.Desk, n api.Note) {
	t.Helper()
	if got := receive(t, d, n); !same(got, d) {
		t.Errorf("%s: the desk is now %+v", name, got)
	}
}

func TestJ3DoneAtOnce(t *testing.T) {
	d := right()
	n := note(0, 3, needs(2, 0, 0, 0, 0), put(of(5, 10, 0), "ABC"), take(of(1, 3, 0), 1))
	got := receive(t, d, n)
	// With it the two notes of that site that wait are done, too.
	if textOf(got) != "ibABCyo!" || !slices.Equal(got.Seen, needs(5, 3, 0, 1, 0)) || !same(got.Waits, d.Waits[2:]) || got.Clock != 10 || !same(got.Out, d.Out) || got.Site != 1 {
		t.Errorf("%+v", got)
	}
	want := []api.Mark{of(1, 3, 0), of(3, 5, 0), of(3, 52, 1), of(9, 95, 3), of(9, 100, 1)}
	if !same(got.State.Gone, want) {
		t.Errorf("gone is %v", got.State.Gone)
	}
}

func TestJ3Waits(t *testing.T) {
	d := right()
	last := note(4, 2, needs(0, 0, 0, 0, 1), put(of(1, 5, 4), "z"))
	between := note(0, 6, needs(5, 0, 0, 0, 0), put(of(10, 10, 0), "z"))
	first := note(0, 3, needs(2, 0, 1, 0, 0), put(of(5, 5, 0, 1, 0), "z"))
	for name, c := range map[string]struct {
		n    api.Note
		want []api.Note
	}{
		"last":    {last, slices.Concat(d.Waits, []api.Note{last})},
		"between": {between, slices.Insert(slices.Clone(d.Waits), 2, between)},
		"first":   {first, slices.Concat([]api.Note{first}, d.Waits)},
	} {
		want := d
		want.Waits = c.want
		if got := receive(t, d, c.n); !same(got, want) {
			t.Errorf("%s: %+v", name, got)
		}
	}
}

func TestJ3NothingChanges(t *testing.T) {
	d := right()
	deed := put(of(500, 77, 1), "q")
	stays(t, "its own, the last one", d, d.Out[1])
	stays(t, "its own, long ago", d, note(1, 1, needs(0, 0, 0, 0, 0), deed))
	stays(t, "its own, the next one", d, note(1, 4, needs(0, 3, 0, 0, 0), deed))
	stays(t, "its own, of days to come", d, note(1, 400, needs(0, 399, 0, 0, 0), deed))
	stays(t, "seen, the last one", d, note(0, 2, needs(1, 0, 0, 0, 0), deed))
	stays(t, "seen, another one", d, note(0, 1, needs(0, 0, 0, 0, 0), deed))
	stays(t, "seen, and needs too much", d, note(3, 1, needs(0, 500, 0, 0, 0), deed))
	for _, n := range d.Waits {
		stays(t, "it waits", d, n)
		n.Deeds = []api.Deed{deed}
		stays(t, "it waits, with other deeds", d, n)
		n.Needs = slices.Clone(n.Needs)
		n.Needs[1] = 500
		stays(t, "it waits, and needs too much", d, n)
	}
}

// A note that waits for one of its own site, or of another one, or for several.
func TestJ3Chain(t *testing.T) {
	sign := func(digit int, s string) api.Deed { return put(of(digit, digit, 0), s) }
	a := note(0, 1, needs(0, 0, 0, 0, 0), sign(1, "a"))
	b := note(2, 1, needs(1, 0, 0, 0, 0), sign(2, "b"))
	c := note(0, 2, needs(1, 0, 1, 0, 0), sign(3, "c"))
	e := note(3, 1, needs(2, 0, 1, 0, 0), sign(4, "d"))
	f := note(2, 2, needs(2, 0, 1, 1, 0), sign(5, "e"))
	d := newDesk(t, 1)
	for i, n := range []api.Note{f, e, c, b} {
		d = receive(t, d, n)
		if len(d.Waits) != i+1 || textOf(d) != "" || !slices.Equal(d.Seen, make([]int, 5)) {
			t.Fatalf("%+v", d)
		}
	}
	if !same(d.Waits, []api.Note{c, b, f, e}) {
		t.Errorf("%+v wait", d.Waits)
	}
	d = receive(t, d, a)
	if len(d.Waits) != 0 || textOf(d) != "abcde" || !slices.Equal(d.Seen, needs(2, 0, 2, 1, 0)) {
		t.Errorf("%+v", d)
	}
}

// The desk's own marks may come from others: its next clock is behind them, as soon as a note has come.
func TestJ3Clock(t *testing.T) {
	for name, c := range map[string]struct {
		deeds []api.Deed
		want  int
	}{
		"taken, less":           {[]api.Deed{take(of(9, 100, 1), 1)}, 10},
		"taken, just so much":   {[]api.Deed{take(of(10, 100, 1), 1)}, 11},
		"taken together":        {[]api.Deed{take(of(5, 100, 1), 30)}, 35},
		"put":                   {[]api.Deed{put(of(40, 100, 1), "z")}, 41},
		"put in a run":          {[]api.Deed{put(of(40, 100, 1), xs(60))}, 100},
		"the greatest clock":    {[]api.Deed{take(of(10000, 100, 1), 1)}, 10001},
		"in some deed":          {[]api.Deed{take(of(20, 100, 1), 1), put(of(30, 101, 1), "ab"), take(of(25, 102, 1), 1), take(of(99, 103, 2), 1)}, 32},
		"another site's":        {[]api.Deed{take(of(20, 100, 1, 1, 2), 1), put(of(30, 101, 0), "ab")}, 10},
		"its own in many steps": {[]api.Deed{take(of(20, 100, 3, 0, 4, 1, 1), 1)}, 21},
	} {
		waiting := note(4, 2, needs(0, 0, 0, 0, 1), c.deeds...)
		if got := receive(t, right(), waiting); got.Clock != c.want || len(got.Waits) != 4 {
			t.Errorf("%s, waiting: clock %d", name, got.Clock)
		}
		ready := note(4, 1, needs(0, 0, 0, 0, 0), c.deeds...)
		if got := receive(t, right(), ready); got.Clock != c.want || got.Seen[4] != 1 {
			t.Errorf("%s, ready: clock %d", name, got.Clock)
		}
		later := receive(t, right(), waiting)
		later = receive(t, later, note(4, 1, needs(0, 0, 0, 0, 0), take(of(1, 1, 4), 1)))
		if later.Clock != c.want || later.Seen[4] != 2 {
			t.Errorf("%s, later: clock %d", name, later.Clock)
		}
	}
}

// Of those that are Ready the first one is done: that tells where there is hardly any room.
func TestJ3Order(t *testing.T) {
	full := withText(t, 4, apart(xs(300)))
	goes, comes := take(full.State.Atoms[7].Mark, 1), put(of(1, 150, 0), "z")
	free := note(3, 1, needs(0, 0, 0, 0, 0), take(of(1, 199, 0), 1))
	behind := needs(0, 0, 0, 1, 0)
	d := receive(t, full, note(2, 1, behind, comes), note(0, 1, behind, goes))
	if got := receive(t, d, free); textOf(got) != xs(299)+"z" || !slices.Equal(got.Seen, needs(1, 0, 1, 1, 0)) {
		t.Errorf("%+v", got)
	}
	d = receive(t, full, note(2, 1, behind, goes), note(0, 1, behind, comes))
	if got, e := desk.Receive(d, free); e != api.ErrMany || !isZero(got) {
		t.Errorf("what comes is ahead: %+v, %d", got, e)
	}
	// What is set free only then is ahead of what was Ready all the time.
	d = receive(t, full, note(0, 1, needs(0, 1, 0, 1, 0), goes), note(1, 1, behind, take(of(2, 199, 0), 1)), note(2, 1, behind, comes))
	if got := receive(t, d, free); textOf(got) != xs(299)+"z" || !slices.Equal(got.Seen, needs(1, 1, 1, 1, 0)) {
		t.Errorf("%+v", got)
	}
	// Of one site, by number.
	d = receive(t, full, note(0, 3, needs(2, 0, 0, 0, 0), comes), note(0, 2, needs(1, 0, 0, 0, 0), goes))
	if got := receive(t, d, note(0, 1, needs(0, 0, 0, 0, 0), free.Deeds...)); textOf(got) != xs(299)+"z" || got.Seen[0] != 3 {
		t.Errorf("%+v", got)
	}
}

func TestJ3Errors(t *testing.T) {
	deed := put(of(500, 77, 0), "q")
	for name, c := range map[string]struct {
		n    api.Note
		want api.Errno
	}{
		"nothing":                   {api.Note{}, api.ErrRange},
		"no site":                   {note(5, 1, needs(0, 0, 0, 0, 0), deed), api.ErrRange},
		"number 0":                  {note(0, 0, needs(0, 0, 0, 0, 0), deed), api.ErrRange},
		"needs of four":             {note(0, 1, needs(0, 0, 0, 0), deed), api.ErrForm},
		"no deeds":                  {note(0, 3, needs(2, 0, 0, 0, 0)), api.ErrForm},
		"its own, and wrong":        {note(1, 1, needs(0, 0, 0, 0, 0), api.Deed{}), api.ErrKind},
		"seen, and wrong":           {note(0, 1, needs(1, 0, 0, 0, 0), deed), api.ErrState},
		"it waits, and is wrong":    {note(0, 4, needs(3, 0, 0, 0, 0), put(api.Mark{}, "a")), api.ErrForm},
		"needs what is not, wrong":  {note(0, 3, needs(2, 4, 0, 0, 0), api.Deed{}), api.ErrKind},
		"many deeds":                {note(0, 3, needs(2, 0, 0, 0, 0), slices.Repeat([]api.Deed{deed}, 21)...), api.ErrMany},
		"needs what is not":         {note(0, 3, needs(2, 4, 0, 0, 0), deed), api.ErrState},
		"needs what is not, waits":  {note(0, 9, needs(8, 500, 0, 0, 0), deed), api.ErrState},
		"needs what is not, of all": {note(4, 1, needs(500, 4, 500, 500, 0), deed), api.ErrState},
	} {
		if got, e := desk.Receive(right(), c.n); e != c.want || !isZero(got) {
			t.Errorf("%s: %+v, %d", name, got, e)
		}
	}
	receive(t, right(), note(0, 3, needs(2, 3, 0, 0, 0), deed))
}

// waiting: so many notes of site 0 that wait for its first one.
func waiting(many int) []api.Note {
	var out []api.Note
	for i := range many {
		out = append(out, note(0, 2+i, needs(1+i, 0, 0, 0, 0), put(of(2+i, 2+i, 0), "w")))
	}
	return out
}

func TestJ3MaxWaiting(t *testing.T) {
	first := note(0, 1, needs(0, 0, 0, 0, 0), put(of(1, 1, 0), "f"))
	l := waiting(41)
	d := receive(t, newDesk(t, 1), l[:40]...)
	if len(d.Waits) != 40 {
		t.Fatalf("%d wait", len(d.Waits))
	}
	for name, n := range map[string]api.Note{
		"one more":           l[40],
		"one of other sites": note(4, 1, needs(0, 0, 0, 1, 0), put(of(1, 1, 4), "g")),
		"one ahead of all":   note(0, 1, needs(0, 0, 0, 0, 1), put(of(1, 1, 0), "g")),
	} {
		if got, e := desk.Receive(d, n); e != api.ErrMany || !isZero(got) {
			t.Errorf("%s: %+v, %d", name, got, e)
		}
	}
	if got, e := desk.Receive(d, note(4, 1, needs(0, 1, 0, 1, 0), put(of(1, 1, 4), "g"))); e != api.ErrState || !isZero(got) {
		t.Errorf("needs what is not ahead of many: %+v, %d", got, e)
	}
	stays(t, "its own", d, note(1, 1, needs(0, 0, 0, 0, 0), put(of(1, 1, 4), "g")))
	stays(t, "it waits", d, l[39])
	if got := receive(t, d, note(2, 1, needs(0, 0, 0, 0, 0), put(of(1, 1, 2), "r"))); len(got.Waits) != 40 || textOf(got) != "r" {
		t.Errorf("one that is ready: %+v", got)
	}
	if got := receive(t, d, first); len(got.Waits) != 0 || textOf(got) != "f"+string(slices.Repeat([]byte{'w'}, 40)) || got.Seen[0] != 41 {
		t.Errorf("the one that they wait for: %+v", got)
	}
}

func TestJ3ErrorsOfDeeds(t *testing.T) {
	full := withText(t, 1, apart(xs(300)))
	full.State.Gone = gone(600)
	here, there := full.State.Atoms[3].Mark, of(1, 150, 0)
	for name, c := range map[string]struct {
		deeds []api.Deed
		want  api.Errno
	}{
		"one comes":           {[]api.Deed{put(there, "z")}, api.ErrMany},
		"one goes":            {[]api.Deed{take(here, 1)}, api.ErrMany},
		"one is to go":        {[]api.Deed{take(there, 1)}, api.ErrMany},
		"one goes, one comes": {[]api.Deed{take(here, 1), put(there, "z")}, api.ErrMany},
		"what is there":       {[]api.Deed{put(here, "z")}, api.OK},
		"what is gone":        {[]api.Deed{put(full.State.Gone[3], "z"), take(full.State.Gone[599], 1)}, api.OK},
	} {
		ready := note(0, 1, needs(0, 0, 0, 0, 0), c.deeds...)
		if got, e := desk.Receive(full, ready); e != c.want || (e != api.OK) != isZero(got) {
			t.Errorf("%s: %d", name, e)
		}
		later := note(0, 2, needs(1, 0, 0, 0, 0), c.deeds...)
		d := receive(t, full, later)
		if got, e := desk.Receive(d, note(0, 1, needs(0, 0, 0, 0, 0), put(here, "z"))); e != c.want || (e != api.OK) != isZero(got) {
			t.Errorf("%s, later: %d", name, e)
		}
	}
}

func TestJ3Taken(t *testing.T) {
	d := right()
	want := right()
	for range 2 {
		got, e := desk.Taken(d)
		want.Out = want.Out[1:]
		if e != api.OK || !same(got, want) || desk.Check(got) != api.OK {
			t.Fatalf("%+v, %d", got, e)
		}
		d = got
	}
	if got, e := desk.Taken(d); e != api.ErrNone || !isZero(got) {
		t.Errorf("%+v, %d", got, e)
	}
	if got, e := desk.Taken(newDesk(t, 0)); e != api.ErrNone || !isZero(got) {
		t.Errorf("%+v, %d", got, e)
	}
	// What is taken is not told again, and the next one goes on from it.
	d = checkType(t, d, 0, "a")
	if len(d.Out) != 1 || d.Out[0].Number != 4 {
		t.Errorf("%+v", d.Out)
	}
}
