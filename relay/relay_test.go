package relay_test

import (
	"math"
	"math/rand"
	"testing"

	"commonplace/api"
	"commonplace/relay"
)

func TestK1Right(t *testing.T) {
	for name, r := range map[string]api.Relay{
		"nothing":        {},
		"an empty log":   {Log: []api.Note{}},
		"one":            logOf(3),
		"one site":       logOf(0, 0, 0),
		"sites in turn":  logOf(4, 0, 4, 4, 1, 0),
		"as many as may": evenly(api.MaxLog),
	} {
		if e := relay.Check(r); e != api.OK {
			t.Errorf("%s: %d", name, e)
		}
	}
}

// What a note needs of other sites may stand behind it, or nowhere.
func TestK1NeedsOfOthers(t *testing.T) {
	r := logOf(1, 0)
	r.Log[0].Needs[0] = 400
	if e := relay.Check(r); e != api.OK {
		t.Errorf("%d", e)
	}
}

// wrongRelays that Check refuses, and why.
func wrongRelays() map[string]wrongRelay {
	out := map[string]wrongRelay{
		"one too many":          {evenly(301), api.ErrMany},
		"too many, all wrong":   {api.Relay{Log: make([]api.Note, 301)}, api.ErrMany},
		"the first is not 1":    {api.Relay{Log: []api.Note{note(0, 2)}}, api.ErrState},
		"one is left out":       {api.Relay{Log: []api.Note{note(0, 1), note(1, 1), note(0, 3)}}, api.ErrState},
		"one is there twice":    {api.Relay{Log: []api.Note{note(0, 1), note(1, 1), note(0, 1)}}, api.ErrState},
		"the last twice":        {api.Relay{Log: append(evenly(10).Log, note(4, 2))}, api.ErrState},
		"falling":               {api.Relay{Log: []api.Note{note(2, 2), note(2, 1)}}, api.ErrState},
		"numbers of all in all": {api.Relay{Log: []api.Note{note(0, 1), note(1, 2)}}, api.ErrState},
		"twice, then a wrong":   {api.Relay{Log: []api.Note{note(0, 1), note(0, 1), {}}}, api.ErrState},
		"a wrong, then twice":   {api.Relay{Log: []api.Note{note(0, 1), {}, note(0, 1)}}, api.ErrRange},
	}
	for name, x := range wrongNotes() {
		out[name] = wrongRelay{api.Relay{Log: []api.Note{note(0, 1), x.n, note(0, 1)}}, x.want}
	}
	// Wrong in itself, and not the next one: what is wrong with it comes first.
	both := changed(note(0, 3), func(n *api.Note) { n.Deeds[0].Kind = 0 })
	out["wrong, and not the next"] = wrongRelay{api.Relay{Log: []api.Note{note(0, 1), both}}, api.ErrKind}
	return out
}

type wrongRelay struct {
	r    api.Relay
	want api.Errno
}

func TestK1Errors(t *testing.T) {
	for name, x := range wrongRelays() {
		if e := relay.Check(x.r); e != x.want {
			t.Errorf("%s: %d", name, e)
		}
	}
}

// What is wrong with the relay comes ahead of all else that is wrong.
func TestK1FirstOfAllCalls(t *testing.T) {
	for name, x := range wrongRelays() {
		for _, n := range []api.Note{note(0, 1), note(0, 500), {}} {
			if r, ok, e := relay.Post(x.r, n); e != x.want || ok || len(r.Log) != 0 {
				t.Errorf("%s: Post: %+v, %v, %d", name, r, ok, e)
			}
		}
		for _, cursor := range []int{0, -1, 1000} {
			if l, e := relay.Pull(x.r, cursor, cursor); e != x.want || len(l) != 0 {
				t.Errorf("%s: Pull: %+v, %d", name, l, e)
			}
		}
	}
}

// posted: a note comes to a relay, or was there already, as told.
func posted(t *testing.T, r api.Relay, n api.Note, comes bool) api.Relay {
	t.Helper()
	want := r
	if comes {
		want = api.Relay{Log: append(r.Log[:len(r.Log):len(r.Log)], n)}
	}
	got, ok, e := relay.Post(r, n)
	if e != api.OK || ok != comes || !same(got, want) || relay.Check(got) != api.OK {
		t.Fatalf("note %d of %d: %v, %d, %+v", n.Number, n.Site, ok, e, got)
	}
	return got
}

func TestK1Post(t *testing.T) {
	r := posted(t, api.Relay{}, note(2, 1), true)
	r = posted(t, r, note(0, 1), true)
	r = posted(t, r, note(2, 2), true)
	r = posted(t, r, note(2, 2), false)
	r = posted(t, r, note(2, 1), false)
	r = posted(t, r, note(4, 1), true)
	r = posted(t, r, note(2, 3), true)
	r = posted(t, r, note(0, 1), false)
	// Of that site and number, whatever else it tells: the one that was there stays.
	other := changed(note(2, 3), func(n *api.Note) { n.Deeds = n.Deeds[1:] })
	posted(t, r, other, false)
}

func TestK1PostErrors(t *testing.T) {
	refused := func(name string, r api.Relay, n api.Note, want api.Errno) {
		t.Helper()
		if got, ok, e := relay.Post(r, n); e != want || ok || len(got.Log) != 0 {
			t.Errorf("%s: %+v, %v, %d", name, got, ok, e)
		}
	}
	for name, x := range wrongNotes() {
		refused(name, logOf(0), x.n, x.want)
		refused(name+", and the log is full", evenly(api.MaxLog), x.n, x.want)
	}
	refused("two more than none", api.Relay{}, note(0, 2), api.ErrState)
	refused("two more", logOf(0, 1, 1, 0), note(0, 4), api.ErrState)
	refused("many more", logOf(0), note(0, 500), api.ErrState)
	refused("one more of another site", logOf(0, 0), note(1, 3), api.ErrState)
	full := evenly(api.MaxLog)
	refused("one more than may be", full, note(3, 61), api.ErrMany)
	refused("two more than may be", full, note(3, 62), api.ErrState)
	posted(t, full, note(3, 60), false)
	posted(t, full, note(0, 1), false)
	posted(t, evenly(api.MaxLog-1), note(4, 60), true)
}

func TestK1Pull(t *testing.T) {
	all := evenly(api.MaxLog)
	for _, r := range []api.Relay{{}, logOf(1), logOf(0, 1, 0, 0, 3), all} {
		for _, many := range []int{0, 1, 2, 5, 299, 300} {
			for cursor := range len(r.Log) + 1 {
				want := r.Log[cursor:]
				want = want[:min(many, len(want))]
				if got, e := relay.Pull(r, cursor, many); e != api.OK || !same(got, want) {
					t.Fatalf("%d from %d on: %d notes, %d", many, cursor, len(got), e)
				}
			}
		}
	}
}

func TestK1PullErrors(t *testing.T) {
	r := logOf(0, 1, 0)
	for _, x := range [][2]int{{-1, 1}, {4, 0}, {4, 1}, {0, -1}, {0, 301}, {3, 301}, {-1, -1}, {math.MinInt, 1}, {math.MaxInt, 1}, {1, math.MinInt}, {1, math.MaxInt}, {math.MaxInt, math.MaxInt}} {
		if got, e := relay.Pull(r, x[0], x[1]); e != api.ErrRange || len(got) != 0 {
			t.Errorf("%v: %+v, %d", x, got, e)
		}
	}
}

// Whoever posts what, however often: each note is there once, each site's in order.
func TestK2EachOnce(t *testing.T) {
	draw := rand.New(rand.NewSource(11))
	for range 20 {
		var r api.Relay
		came := make([]int, api.MaxSites)
		for range 150 {
			n := note(draw.Intn(api.MaxSites), 1)
			n = note(n.Site, max(1, came[n.Site]+draw.Intn(5)-2))
			got, ok, e := relay.Post(r, n)
			if ok != (n.Number == came[n.Site]+1) || (e == api.ErrState) != (n.Number > came[n.Site]+1) {
				t.Fatalf("note %d of %d: %v, %d", n.Number, n.Site, ok, e)
			}
			if ok {
				came[n.Site]++
			}
			if e == api.OK {
				r = got
			}
		}
		checkOnce(t, r, came)
	}
}

// checkOnce: a relay has so many notes of each site, from the first one on, in order.
func checkOnce(t *testing.T, r api.Relay, came []int) {
	t.Helper()
	var numbers [api.MaxSites][]int
	for _, n := range r.Log {
		numbers[n.Site] = append(numbers[n.Site], n.Number)
	}
	for site, l := range numbers {
		for i, number := range l {
			if number != i+1 {
				t.Fatalf("site %d: %v", site, l)
			}
		}
		if len(l) != came[site] {
			t.Fatalf("site %d: %v, and %d came", site, l, came[site])
		}
	}
	if e := relay.Check(r); e != api.OK {
		t.Fatalf("%d", e)
	}
}
