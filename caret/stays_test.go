package caret_test

import (
	"math/rand"
	"slices"
	"testing"

	"commonplace/api"
	"commonplace/caret"
	"commonplace/mark"
	"commonplace/state"
)

func put(m api.Mark, text string) api.Deed {
	return api.Deed{Kind: api.DeedPut, Run: api.Run{Mark: m, Text: text}}
}

func take(m api.Mark, many int) api.Deed {
	return api.Deed{Kind: api.DeedTake, Mark: m, Many: many}
}

// carets of all places of a state, the beginning first.
func carets(t *testing.T, s api.State) []api.Mark {
	t.Helper()
	var out []api.Mark
	for at := range len(s.Atoms) + 1 {
		c, e := caret.Of(s, at)
		if e != api.OK {
			t.Fatalf("Of %d: %d", at, e)
		}
		out = append(out, c)
	}
	return out
}

func TestF2Stays(t *testing.T) {
	s := hello() // hXYlloz
	for name, c := range map[string]struct {
		l    []api.Deed
		want []int
	}{
		"nothing":                {nil, []int{0, 1, 2, 3, 4, 5, 6, 7}},
		"put ahead":              {[]api.Deed{put(of(1, 1, 0), "ab")}, []int{0, 3, 4, 5, 6, 7, 8, 9}},
		"put behind":             {[]api.Deed{put(of(1, 90, 0), "ab")}, []int{0, 1, 2, 3, 4, 5, 6, 7}},
		"put within":             {[]api.Deed{put(of(1, 5, 0, 1, 3), "ab")}, []int{0, 1, 2, 3, 4, 7, 8, 9}},
		"take ahead":             {[]api.Deed{take(of(1, 3, 0), 1)}, []int{0, 0, 1, 2, 3, 4, 5, 6}},
		"take those within":      {[]api.Deed{take(of(1, 4, 0, 100, 1), 2)}, []int{0, 1, 1, 1, 2, 3, 4, 5}},
		"take the last one":      {[]api.Deed{take(of(1, 9, 2), 1)}, []int{0, 1, 2, 3, 4, 5, 6, 6}},
		"take what is not there": {[]api.Deed{take(of(1, 60, 0), 9)}, []int{0, 1, 2, 3, 4, 5, 6, 7}},
		"take all":               {[]api.Deed{take(of(1, 3, 0), 5), take(of(1, 4, 0, 100, 1), 2), take(of(1, 9, 2), 1)}, []int{0, 0, 0, 0, 0, 0, 0, 0}},
		"take, and put behind":   {[]api.Deed{take(of(1, 3, 0), 1), put(of(1, 3, 0, 1, 3), "ab")}, []int{0, 0, 3, 4, 5, 6, 7, 8}},
		"take, and put ahead":    {[]api.Deed{take(of(1, 3, 0), 1), put(of(1, 2, 3), "a")}, []int{0, 1, 2, 3, 4, 5, 6, 7}},
	} {
		now, e := state.All(s, c.l)
		if e != api.OK {
			t.Fatalf("%s: All is %d", name, e)
		}
		for i, m := range carets(t, s) {
			if n, e := caret.At(now, m); e != api.OK || n != c.want[i] {
				t.Errorf("%s: the caret at %d is at %d, %d, not at %d", name, i, n, e, c.want[i])
			}
		}
	}
}

// drawn deeds, of few marks, so that they meet one another.
func drawn(r *rand.Rand, n int) []api.Deed {
	var out []api.Deed
	for range n {
		m := of(1+r.Intn(3), 1+r.Intn(9), r.Intn(2))
		if r.Intn(2) == 0 {
			m.Path = append(m.Path, api.Step{Digit: 1 + r.Intn(9), Site: r.Intn(2)})
		}
		if r.Intn(3) == 0 {
			out = append(out, take(m, 1+r.Intn(6)))
		} else {
			out = append(out, put(m, "abcdef"[:1+r.Intn(6)]))
		}
	}
	return out
}

// place behind a sign where it is, or was: all that came there stands behind it or ahead of it for ever.
func place(s api.State, m api.Mark) int {
	at := slices.IndexFunc(s.Atoms, func(a api.Atom) bool { return mark.Order(a.Mark, m) == 0 })
	if at >= 0 {
		return at + 1
	}
	ahead := 0
	for _, a := range s.Atoms {
		if mark.Order(a.Mark, m) < 0 {
			ahead++
		}
	}
	return ahead
}

func TestF2WhateverIsDone(t *testing.T) {
	r := rand.New(rand.NewSource(1))
	for range 200 {
		s, _ := state.All(api.State{}, drawn(r, 12))
		l := carets(t, s)
		for range 10 {
			var e api.Errno
			if s, e = state.All(s, drawn(r, 2)); e != api.OK {
				t.Fatalf("All: %d", e)
			}
			last := 0
			for i, m := range l {
				n, e := caret.At(s, m)
				if i > 0 && n != place(s, m) || i == 0 && n != 0 || n < last || e != api.OK {
					t.Fatalf("the caret %v is at %d, %d", m, n, e)
				}
				last = n
			}
		}
	}
}
