package wire_test

import (
	"math"
	"slices"
	"testing"

	"commonplace/api"
	"commonplace/wire"
)

func TestH1Right(t *testing.T) {
	for name, n := range map[string]api.Note{"one": note(), "the least": least(), "the greatest": greatest()} {
		if e := wire.Check(n); e != api.OK {
			t.Errorf("%s: %d", name, e)
		}
	}
	for site := range api.MaxSites {
		n := note()
		n.Site, n.Number = site, n.Needs[site]+1
		want := api.OK
		if n.Number > api.MaxNumber {
			want = api.ErrRange
		}
		if e := wire.Check(n); e != want {
			t.Errorf("of site %d: %d", site, e)
		}
	}
}

type wrongNote struct {
	n    api.Note
	want api.Errno
}

// wrongNotes, and why.
func wrongNotes() map[string]wrongNote {
	out := map[string]wrongNote{}
	add := func(name string, want api.Errno, change func(n *api.Note)) {
		n := note()
		change(&n)
		out[name] = wrongNote{n, want}
	}
	add("nothing", api.ErrRange, func(n *api.Note) { *n = api.Note{} })
	add("site below 0", api.ErrRange, func(n *api.Note) { n.Site = -1 })
	add("site 5", api.ErrRange, func(n *api.Note) { n.Site = 5 })
	add("site 256 more", api.ErrRange, func(n *api.Note) { n.Site += 256 })
	add("the greatest site", api.ErrRange, func(n *api.Note) { n.Site = math.MaxInt })
	add("the least site", api.ErrRange, func(n *api.Note) { n.Site = math.MinInt })
	add("number 0", api.ErrRange, func(n *api.Note) { n.Number, n.Needs[1] = 0, -1 })
	add("number 501", api.ErrRange, func(n *api.Note) { n.Number, n.Needs[1] = 501, 500 })
	add("the least number", api.ErrRange, func(n *api.Note) { n.Number, n.Needs[1] = math.MinInt, math.MaxInt })
	add("no needs", api.ErrForm, func(n *api.Note) { n.Needs = nil })
	add("needs of four", api.ErrForm, func(n *api.Note) { n.Needs = n.Needs[:4] })
	add("needs of six", api.ErrForm, func(n *api.Note) { n.Needs = append(n.Needs, 0) })
	add("a need below 0", api.ErrRange, func(n *api.Note) { n.Needs[4] = -1 })
	add("a need of 501", api.ErrRange, func(n *api.Note) { n.Needs[0] = 501 })
	add("as many of its own", api.ErrState, func(n *api.Note) { n.Needs[1] = 3 })
	add("one too few of its own", api.ErrState, func(n *api.Note) { n.Needs[1] = 1 })
	add("of another site", api.ErrState, func(n *api.Note) { n.Site = 0 })
	add("no deeds", api.ErrForm, func(n *api.Note) { n.Deeds = nil })
	add("21 deeds", api.ErrMany, func(n *api.Note) { n.Deeds = slices.Repeat(n.Deeds[:1], 21) })
	return out
}

// wrongDeeds that Deed of chapter 4 refuses, and why.
func wrongDeeds() map[string]wrongNote {
	out := map[string]wrongNote{}
	add := func(name string, want api.Errno, d api.Deed) {
		n := note()
		n.Deeds[1] = d
		out[name] = wrongNote{n, want}
	}
	add("kind 0", api.ErrKind, api.Deed{})
	add("kind 3", api.ErrKind, api.Deed{Kind: 3, Mark: of(1, 1, 0), Many: 1})
	add("kind 257", api.ErrKind, api.Deed{Kind: 257, Run: api.Run{Mark: of(1, 1, 0), Text: "a"}})
	add("a put without steps", api.ErrForm, put(of(1), "a"))
	add("a put too deep", api.ErrMany, put(deep(11), "a"))
	add("a put with clock 0", api.ErrRange, put(of(0, 1, 0), "a"))
	add("a put of site 5", api.ErrRange, put(of(1, 1, 5), "a"))
	add("a put of digit 201", api.ErrRange, put(of(1, 201, 0), "a"))
	add("a put with last digit 0", api.ErrRange, put(of(1, 0, 0), "a"))
	add("a put of nothing", api.ErrForm, put(of(1, 1, 0), ""))
	add("a put of 61", api.ErrMany, put(of(1, 1, 0), xs(61)))
	add("a put of no sign", api.ErrRange, put(of(1, 1, 0), "\x7f"))
	add("a put beyond the last digit", api.ErrRange, put(of(1, 200, 0), "ab"))
	add("a put beyond the last clock", api.ErrRange, put(of(10000, 1, 0), "ab"))
	add("a put with Many", api.ErrForm, api.Deed{Kind: api.DeedPut, Run: api.Run{Mark: of(1, 1, 0), Text: "a"}, Many: 1})
	add("a put with Mark", api.ErrForm, api.Deed{Kind: api.DeedPut, Run: api.Run{Mark: of(1, 1, 0), Text: "a"}, Mark: of(1)})
	add("a take with Run", api.ErrForm, api.Deed{Kind: api.DeedTake, Mark: of(1, 1, 0), Many: 1, Run: api.Run{Text: "a"}})
	add("a take without steps", api.ErrForm, take(api.Mark{}, 1))
	add("a take of none", api.ErrRange, take(of(1, 1, 0), 0))
	add("a take of 61", api.ErrRange, take(of(1, 1, 0), 61))
	add("a take of 257", api.ErrRange, take(of(1, 1, 0), 257))
	add("a take beyond the last digit", api.ErrRange, take(of(1, 200, 0), 2))
	return out
}

func TestH1Errors(t *testing.T) {
	for _, all := range []map[string]wrongNote{wrongNotes(), wrongDeeds()} {
		for name, c := range all {
			if e := wire.Check(c.n); e != c.want {
				t.Errorf("%s: %d", name, e)
			}
		}
	}
}

// Where several are wrong the one that is named first tells.
func TestH1FirstError(t *testing.T) {
	wrong := []api.Deed{{}}
	for name, c := range map[string]wrongNote{
		"site ahead of needs":          {api.Note{Site: 5, Number: 1}, api.ErrRange},
		"number ahead of needs":        {api.Note{Number: 501}, api.ErrRange},
		"how many needs ahead of one":  {api.Note{Number: 1, Needs: []int{-1}, Deeds: wrong}, api.ErrForm},
		"a need ahead of its own":      {api.Note{Number: 1, Needs: []int{1, 0, 0, 0, 501}, Deeds: wrong}, api.ErrRange},
		"its own ahead of no deeds":    {api.Note{Number: 1, Needs: []int{1, 0, 0, 0, 0}}, api.ErrState},
		"its own ahead of many deeds":  {api.Note{Number: 1, Needs: []int{1, 0, 0, 0, 0}, Deeds: make([]api.Deed, 21)}, api.ErrState},
		"many deeds ahead of one":      {api.Note{Number: 1, Needs: make([]int, 5), Deeds: make([]api.Deed, 21)}, api.ErrMany},
		"the first deed that is wrong": {api.Note{Number: 1, Needs: make([]int, 5), Deeds: []api.Deed{take(of(1, 1, 0), 1), put(deep(11), ""), {}}}, api.ErrMany},
	} {
		if e := wire.Check(c.n); e != c.want {
			t.Errorf("%s: %d", name, e)
		}
	}
}
