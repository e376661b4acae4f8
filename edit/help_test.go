package edit_test

import (
	"reflect"
	"slices"
	"strings"

	"commonplace/api"
)

// of: a mark of digits, each with its site, with a clock.
func of(clock int, l ...int) api.Mark {
	out := api.Mark{Clock: clock}
	for i := 0; i+1 < len(l); i += 2 {
		out.Path = append(out.Path, api.Step{Digit: l[i], Site: l[i+1]})
	}
	return out
}

// more: the mark whose last digit and clock are more by so many.
func more(m api.Mark, by int) api.Mark {
	path := slices.Clone(m.Path)
	path[len(path)-1].Digit += by
	return api.Mark{Path: path, Clock: m.Clock + by}
}

// atoms that are Next one of the other, the signs of a text.
func atoms(first api.Mark, text string) []api.Atom {
	var out []api.Atom
	for i := range len(text) {
		out = append(out, api.Atom{Mark: more(first, i), Sign: text[i]})
	}
	return out
}

func take(m api.Mark, many int) api.Deed {
	return api.Deed{Kind: api.DeedTake, Mark: m, Many: many}
}

func xs(n int) string { return strings.Repeat("x", n) }

func textOf(s api.State) string {
	var out []byte
	for _, a := range s.Atoms {
		out = append(out, a.Sign)
	}
	return string(out)
}

// same: lists without elements are the same, nil or not.
func same[T any](a, b []T) bool { return len(a) == 0 && len(b) == 0 || reflect.DeepEqual(a, b) }

// deep: a mark of so many steps.
func deep(steps int) api.Mark {
	return api.Mark{Path: slices.Repeat([]api.Step{{Digit: 1, Site: 1}}, steps), Clock: 1}
}

// hello: a state with a sign gone, and two to go when they come, of site 1 and of a site that has no other.
func hello() api.State {
	l := atoms(of(1, 3, 0), "hello")
	return api.State{
		Atoms: slices.Concat(l[:1], atoms(of(1, 4, 0, 100, 1), "XY"), l[2:], atoms(of(1, 9, 2), "z")),
		Gone:  []api.Mark{of(2, 4, 0), of(7, 9, 1), of(4, 50, 3)},
	}
}

// long: a state of so many atoms, in rows of sixty.
func long(many int) api.State {
	var s api.State
	for i := 0; i < many; i += 60 {
		s.Atoms = append(s.Atoms, atoms(of(1+i, 10+i/60, 0, 1, 0), xs(min(60, many-i)))...)
	}
	return s
}

type wrongState struct {
	s api.State
	e api.Errno
}

// wrongStates that Check of chapter 4 refuses, and why.
func wrongStates() map[string]wrongState {
	three, four := of(1, 3, 0), of(2, 4, 0)
	return map[string]wrongState{
		"too many atoms":         {long(301), api.ErrMany},
		"an atom without a mark": {api.State{Atoms: make([]api.Atom, 1)}, api.ErrForm},
		"an atom of no sign":     {api.State{Atoms: atoms(three, "\x7f")}, api.ErrRange},
		"atoms not rising":       {api.State{Atoms: append(atoms(four, "a"), atoms(three, "b")...)}, api.ErrState},
		"too many gone":          {api.State{Gone: make([]api.Mark, 601)}, api.ErrMany},
		"gone without steps":     {api.State{Atoms: atoms(three, "a"), Gone: make([]api.Mark, 1)}, api.ErrForm},
		"gone with clock 0":      {api.State{Atoms: atoms(three, "a"), Gone: []api.Mark{of(0, 3, 0)}}, api.ErrRange},
		"gone and there":         {api.State{Atoms: atoms(three, "a"), Gone: []api.Mark{three}}, api.ErrState},
	}
}
