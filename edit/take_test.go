package edit_test

import (
	"math"
	"reflect"
	"slices"
	"testing"

	"commonplace/api"
	"commonplace/edit"
	"commonplace/state"
)

// plainTakes: deeds that take atoms, told in the plainest way: one goes on as long as the next mark is one more.
func plainTakes(l []api.Atom) []api.Deed {
	var out []api.Deed
	for i, a := range l {
		if i > 0 && reflect.DeepEqual(more(l[i-1].Mark, 1), a.Mark) && out[len(out)-1].Many < api.MaxRun {
			out[len(out)-1].Many++
			continue
		}
		out = append(out, take(a.Mark, 1))
	}
	return out
}

// checkTake that Take answers what it must; tells the state to which its deeds lead.
func checkTake(t *testing.T, s api.State, at, many int) api.State {
	t.Helper()
	l, e := edit.Take(s, at, many)
	if e != api.OK || !same(l, plainTakes(s.Atoms[at:at+many])) {
		t.Fatalf("%d from %d on of %q: %v, %d", many, at, textOf(s), l, e)
	}
	done, e := state.All(s, l)
	want, _ := edit.Plain(textOf(s), plainTake(at, many))
	if e != api.OK || textOf(done) != want || len(done.Gone) != len(s.Gone)+many {
		t.Fatalf("%d from %d on of %q: %q, %d", many, at, textOf(s), textOf(done), e)
	}
	return done
}

func TestE3Take(t *testing.T) {
	for _, s := range []api.State{{}, {Gone: hello().Gone}, hello(), long(130)} {
		for at := range len(s.Atoms) + 1 {
			for many := range len(s.Atoms) - at + 1 {
				checkTake(t, s, at, many)
			}
		}
	}
}

func TestE3Deeds(t *testing.T) {
	row := func(n int) api.State { return api.State{Atoms: atoms(of(1, 3, 0), xs(n))} }
	for name, c := range map[string]struct {
		s        api.State
		at, many int
		want     []api.Deed
	}{
		"none of nothing":           {api.State{}, 0, 0, nil},
		"none":                      {hello(), 3, 0, nil},
		"none at the end":           {hello(), 7, 0, nil},
		"one":                       {hello(), 0, 1, []api.Deed{take(of(1, 3, 0), 1)}},
		"all":                       {hello(), 0, 7, []api.Deed{take(of(1, 3, 0), 1), take(of(1, 4, 0, 100, 1), 2), take(of(3, 5, 0), 3), take(of(1, 9, 2), 1)}},
		"within":                    {hello(), 2, 2, []api.Deed{take(of(2, 4, 0, 101, 1), 1), take(of(3, 5, 0), 1)}},
		"the last one":              {hello(), 6, 1, []api.Deed{take(of(1, 9, 2), 1)}},
		"over what is gone":         {api.State{Atoms: slices.Concat(row(1).Atoms, atoms(of(3, 5, 0), "b")), Gone: []api.Mark{of(2, 4, 0)}}, 0, 2, []api.Deed{take(of(1, 3, 0), 1), take(of(3, 5, 0), 1)}},
		"a clock that is left out":  {api.State{Atoms: slices.Concat(row(1).Atoms, atoms(of(3, 4, 0), "b"))}, 0, 2, []api.Deed{take(of(1, 3, 0), 1), take(of(3, 4, 0), 1)}},
		"as many as a run has":      {row(60), 0, 60, []api.Deed{take(of(1, 3, 0), 60)}},
		"one more than a run has":   {row(61), 0, 61, []api.Deed{take(of(1, 3, 0), 60), take(of(61, 63, 0), 1)}},
		"a run's, from within":      {row(120), 30, 60, []api.Deed{take(of(31, 33, 0), 60)}},
		"more than that, on behind": {row(120), 30, 61, []api.Deed{take(of(31, 33, 0), 60), take(of(91, 93, 0), 1)}},
	} {
		if l, e := edit.Take(c.s, c.at, c.many); e != api.OK || !same(l, c.want) {
			t.Errorf("%s: %v, %d", name, l, e)
		}
	}
	if l, e := edit.Take(long(300), 0, 300); e != api.OK || len(l) != 5 {
		t.Errorf("all of as many as there may be: %v, %d", l, e)
	}
}

func TestE3Errors(t *testing.T) {
	for name, c := range map[string]struct {
		s        api.State
		at, many int
	}{
		"place below 0":           {hello(), -1, 2},
		"none, place below 0":     {hello(), -1, 0},
		"fewer than none":         {hello(), 2, -1},
		"one more than there are": {hello(), 0, 8},
		"one at the end":          {hello(), 7, 1},
		"none beyond the end":     {hello(), 8, 0},
		"one of nothing":          {api.State{Gone: hello().Gone}, 0, 1},
		"fewer than none, beyond": {hello(), 8, -1},
		"as many as may be":       {hello(), 1, math.MaxInt},
		"as far as may be":        {hello(), math.MaxInt, 1},
		"both":                    {hello(), math.MaxInt, math.MaxInt},
		"as few as may be":        {hello(), 0, math.MinInt},
		"the least place":         {hello(), math.MinInt, math.MaxInt},
	} {
		if l, e := edit.Take(c.s, c.at, c.many); e != api.ErrRange || len(l) != 0 {
			t.Errorf("%s: %v, %d", name, l, e)
		}
	}
	for name, row := range wrongStates() {
		for _, at := range []int{-1, 0, 999} {
			if l, e := edit.Take(row.s, at, 0); e != row.e || len(l) != 0 {
				t.Errorf("%s: %v, %d", name, l, e)
			}
		}
	}
}
