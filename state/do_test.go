package state_test

import (
	"fmt"
	"math/rand"
	"slices"
	"testing"

	"commonplace/api"
	"commonplace/mark"
	"commonplace/state"
)

func TestD2Put(t *testing.T) {
	gone := hello().Gone
	for name, c := range map[string]struct {
		d    api.Deed
		want string
	}{
		"behind all":                 {put(of(1, 50, 0), "!?"), "hXYlloz!?"},
		"ahead of all":               {put(of(1, 1, 0), "!?"), "!?hXYlloz"},
		"within":                     {put(of(1, 5, 0, 7, 2), "a b"), "hXYla bloz"},
		"what is there already":      {put(of(1, 4, 0, 100, 1), "XY"), "hXYlloz"},
		"a sign that is lesser":      {put(of(1, 3, 0), "A"), "AXYlloz"},
		"a sign that is greater":     {put(of(1, 3, 0), "z"), "hXYlloz"},
		"what is gone":               {put(of(2, 4, 0), "e"), "hXYlloz"},
		"what is to go":              {put(of(1, 9, 1), "q"), "hXYlloz"},
		"with what is gone":          {put(of(1, 3, 0), "AAAAA"), "AXYAAAz"},
		"what is to go, and behind":  {put(of(1, 9, 1), "qr"), "hXYllozr"},
		"of another clock, is there": {put(of(3, 4, 0), "e"), "heXYlloz"},
	} {
		s, e := state.Do(hello(), c.d)
		if e != api.OK || textOf(s) != c.want || !same(api.State{Gone: s.Gone}, api.State{Gone: gone}) || state.Check(s) != api.OK {
			t.Errorf("%s: %q, gone %v, %d", name, textOf(s), s.Gone, e)
		}
	}
}

func TestD2Take(t *testing.T) {
	e, q := of(2, 4, 0), of(1, 9, 1)
	for name, c := range map[string]struct {
		d    api.Deed
		want string
		gone []api.Mark
	}{
		"the first one":          {take(of(1, 3, 0), 1), "XYlloz", []api.Mark{of(1, 3, 0), e, q}},
		"all of a run":           {take(of(1, 3, 0), 5), "XYz", append(marks(of(1, 3, 0), 5), q)},
		"two within":             {take(of(1, 4, 0, 100, 1), 2), "hlloz", []api.Mark{e, of(1, 4, 0, 100, 1), of(2, 4, 0, 101, 1), q}},
		"the last one":           {take(of(1, 9, 2), 1), "hXYllo", []api.Mark{e, q, of(1, 9, 2)}},
		"what is not there":      {take(of(1, 50, 0), 60), "hXYlloz", append([]api.Mark{e, q}, marks(of(1, 50, 0), 60)...)},
		"what is gone":           {take(e, 1), "hXYlloz", []api.Mark{e, q}},
		"some that are there":    {take(of(5, 7, 0), 3), "hXYllz", []api.Mark{e, of(5, 7, 0), of(6, 8, 0), of(7, 9, 0), q}},
		"a clock that is no one": {take(of(2, 3, 0), 1), "hXYlloz", []api.Mark{of(2, 3, 0), e, q}},
	} {
		s, e := state.Do(hello(), c.d)
		if e != api.OK || textOf(s) != c.want || !same(api.State{Gone: s.Gone}, api.State{Gone: c.gone}) || state.Check(s) != api.OK {
			t.Errorf("%s: %q, gone %v, %d", name, textOf(s), s.Gone, e)
		}
	}
}

func TestD2All(t *testing.T) {
	three := of(1, 3, 0)
	for name, c := range map[string]struct {
		l    []api.Deed
		want string
		gone int
	}{
		"none":                     {nil, "", 0},
		"no deeds":                 {[]api.Deed{}, "", 0},
		"put":                      {[]api.Deed{put(three, "hi")}, "hi", 0},
		"put, put":                 {[]api.Deed{put(three, "hi"), put(of(1, 3, 0, 100, 1), "a")}, "hai", 0},
		"put, take":                {[]api.Deed{put(three, "hi"), take(of(2, 4, 0), 1)}, "h", 1},
		"take, put":                {[]api.Deed{take(of(2, 4, 0), 1), put(three, "hi")}, "h", 1},
		"take ahead, put twice":    {[]api.Deed{put(three, "hi"), take(of(2, 4, 0), 1), put(three, "hi")}, "h", 1},
		"take, take over the edge": {[]api.Deed{put(three, "hello"), take(three, 3), take(of(2, 4, 0), 3)}, "o", 4},
	} {
		s, e := state.All(api.State{}, c.l)
		if e != api.OK || textOf(s) != c.want || len(s.Gone) != c.gone || state.Check(s) != api.OK {
			t.Errorf("%s: %q, gone %v, %d", name, textOf(s), s.Gone, e)
		}
	}
	for _, s := range []api.State{hello(), full()} {
		if got, e := state.All(s, nil); e != api.OK || !same(got, s) {
			t.Errorf("without deeds %v is %v, %d", s, got, e)
		}
	}
}

// D2: the document's example: the taking comes ahead of the sign, and that never comes.
func TestD2Example(t *testing.T) {
	l := []api.Deed{put(of(1, 3, 0), "hi"), put(of(1, 3, 0, 100, 1), "a"), take(of(2, 4, 0), 1)}
	for _, order := range [][]int{{0, 1, 2}, {0, 2, 1}, {1, 0, 2}, {1, 2, 0}, {2, 0, 1}, {2, 1, 0}} {
		s, e := state.All(api.State{}, []api.Deed{l[order[0]], l[order[1]], l[order[2]]})
		if e != api.OK || textOf(s) != "ha" || !same(api.State{Gone: s.Gone}, api.State{Gone: []api.Mark{of(2, 4, 0)}}) {
			t.Errorf("in order %v: %q, %v, %d", order, textOf(s), s.Gone, e)
		}
	}
}

func TestD2Errors(t *testing.T) {
	right := put(of(1, 40, 0), "a")
	for name, row := range wrongStates() {
		if s, e := state.Do(row.s, right); e != row.e || !isZero(s) {
			t.Errorf("%s: Do is %v, %d", name, s, e)
		}
		if s, e := state.Do(row.s, api.Deed{Kind: 9}); e != row.e || !isZero(s) {
			t.Errorf("%s, and a wrong deed: Do is %v, %d", name, s, e)
		}
		for _, l := range [][]api.Deed{nil, {right}, {{Kind: 9}}} {
			if s, e := state.All(row.s, l); e != row.e || !isZero(s) {
				t.Errorf("%s: All of %v is %v, %d", name, l, s, e)
			}
		}
	}
	for name, row := range wrongDeeds() {
		if s, e := state.Do(hello(), row.d); e != row.e || !isZero(s) {
			t.Errorf("%s: Do is %v, %d", name, s, e)
		}
		for _, l := range [][]api.Deed{{row.d}, {row.d, right}, {right, row.d}, {right, right, row.d, {Kind: 9}}} {
			if s, e := state.All(hello(), l); e != row.e || !isZero(s) {
				t.Errorf("%s: All of %v is %v, %d", name, l, s, e)
			}
		}
	}
}

// without so many of its last atoms, and of its last marks gone.
func without(s api.State, lastAtoms, lastGone int) api.State {
	return api.State{Atoms: s.Atoms[:len(s.Atoms)-lastAtoms], Gone: s.Gone[:len(s.Gone)-lastGone]}
}

func TestD2ErrMany(t *testing.T) {
	fresh, there, gone := of(1, 100, 0), of(1, 10, 0, 1, 0), of(1, 20, 0, 1, 0)
	for name, c := range map[string]struct {
		s    api.State
		l    []api.Deed
		e    api.Errno
		here int
		gone int
	}{
		"one more than may be there":    {full(), []api.Deed{put(fresh, "x")}, api.ErrMany, 0, 0},
		"as many as may be there":       {without(full(), 1, 0), []api.Deed{put(fresh, "x")}, api.OK, 300, 600},
		"two more, one too many":        {without(full(), 1, 0), []api.Deed{put(fresh, "xx")}, api.ErrMany, 0, 0},
		"what is there comes again":     {full(), []api.Deed{put(there, xs(60))}, api.OK, 300, 600},
		"what is gone comes":            {full(), []api.Deed{put(gone, xs(60))}, api.OK, 300, 600},
		"one more than may be gone":     {full(), []api.Deed{take(fresh, 1)}, api.ErrMany, 0, 0},
		"one that is there is too many": {full(), []api.Deed{take(there, 1)}, api.ErrMany, 0, 0},
		"as many as may be gone":        {without(full(), 0, 1), []api.Deed{take(there, 1)}, api.OK, 299, 600},
		"as many gone, none there":      {without(full(), 0, 60), []api.Deed{take(fresh, 60)}, api.OK, 300, 600},
		"two go, one too many":          {without(full(), 0, 1), []api.Deed{take(there, 2)}, api.ErrMany, 0, 0},
		"what is gone goes again":       {full(), []api.Deed{take(gone, 60)}, api.OK, 300, 600},
		"too many there for a time":     {without(full(), 0, 60), []api.Deed{put(fresh, "x"), take(there, 60)}, api.ErrMany, 0, 0},
		"never too many there":          {without(full(), 0, 60), []api.Deed{take(there, 60), put(fresh, "x")}, api.OK, 241, 600},
		"too many there, then gone":     {without(full(), 0, 60), []api.Deed{put(fresh, "x"), take(fresh, 1)}, api.ErrMany, 0, 0},
		"gone ahead, never there":       {without(full(), 0, 60), []api.Deed{take(fresh, 1), put(fresh, "x")}, api.OK, 300, 541},
		"a wrong deed behind tells":     {full(), []api.Deed{put(fresh, "x"), {Kind: 9}}, api.ErrKind, 0, 0},
	} {
		s, e := state.All(c.s, c.l)
		if e != c.e || len(s.Atoms) != c.here || len(s.Gone) != c.gone || state.Check(s) != api.OK {
			t.Errorf("%s: %d there, %d gone, %d", name, len(s.Atoms), len(s.Gone), e)
		}
		if len(c.l) > 1 {
			continue
		}
		if one, f := state.Do(c.s, c.l[0]); f != e || !same(one, s) {
			t.Errorf("%s: Do is not as All", name)
		}
	}
}

// drawn deeds, of few marks, so that they meet one another.
func drawn(r *rand.Rand, n int) []api.Deed {
	var out []api.Deed
	for range n {
		m := of(1+r.Intn(3), 1+r.Intn(9), r.Intn(2))
		if r.Intn(2) == 0 {
			m.Path = append(m.Path, api.Step{Digit: 1 + r.Intn(9), Site: r.Intn(2)})
		}
		if r.Intn(2) == 0 {
			out = append(out, take(m, 1+r.Intn(6)))
			continue
		}
		text := make([]byte, 1+r.Intn(6))
		for i := range text {
			text[i] = byte(32 + r.Intn(95))
		}
		out = append(out, put(m, string(text)))
	}
	return out
}

// plain: the state that deeds lead to, told in the plainest way: who is taken by any of them is gone, and of the others the lesser sign stands.
func plain(l []api.Deed) api.State {
	signs, gone, all := map[string]byte{}, map[string]bool{}, map[string]api.Mark{}
	for _, d := range l {
		for i := range d.Many {
			m := more(d.Mark, i)
			gone[fmt.Sprint(m)], all[fmt.Sprint(m)] = true, m
		}
		for i := range len(d.Run.Text) {
			m := more(d.Run.Mark, i)
			name := fmt.Sprint(m)
			if old, ok := signs[name]; !ok || d.Run.Text[i] < old {
				signs[name] = d.Run.Text[i]
			}
			all[name] = m
		}
	}
	var s api.State
	for name, m := range all {
		if gone[name] {
			s.Gone = append(s.Gone, m)
		} else {
			s.Atoms = append(s.Atoms, api.Atom{Mark: m, Sign: signs[name]})
		}
	}
	slices.SortFunc(s.Gone, mark.Order)
	slices.SortFunc(s.Atoms, func(a, b api.Atom) int { return mark.Order(a.Mark, b.Mark) })
	return s
}

func TestD3WhateverOrder(t *testing.T) {
	r := rand.New(rand.NewSource(1))
	for range 300 {
		l := drawn(r, 1+r.Intn(30))
		want := plain(l)
		for range 3 {
			twice := append(slices.Clone(l), l[r.Intn(len(l)):]...)
			r.Shuffle(len(twice), func(i, k int) { twice[i], twice[k] = twice[k], twice[i] })
			s, e := state.All(api.State{}, twice)
			if e != api.OK || !same(s, want) || state.Check(s) != api.OK {
				t.Fatalf("%v leads to %v, %d, not to %v", twice, s, e, want)
			}
			var one api.State
			for _, d := range twice {
				if one, e = state.Do(one, d); e != api.OK {
					t.Fatalf("Do of %v: %d", d, e)
				}
			}
			if !same(one, want) {
				t.Fatalf("%v, one by one, leads to %v, not to %v", twice, one, want)
			}
		}
	}
}

func TestD3Twice(t *testing.T) {
	for _, d := range []api.Deed{put(of(1, 3, 0), "AAAAA"), put(of(1, 60, 0), "new"), take(of(1, 3, 0), 5), take(of(1, 60, 0), 5), take(of(2, 4, 0), 1)} {
		once, _ := state.Do(hello(), d)
		if twice, e := state.Do(once, d); e != api.OK || !same(twice, once) {
			t.Errorf("%v, twice: %v, %d", d, twice, e)
		}
	}
}
