// Package atom: atoms: see doc/02-atom.md.
package atom

import (
	"cmp"
	"slices"

	"commonplace/api"
	"commonplace/fresh"
	"commonplace/mark"
	"commonplace/sign"
)

// Check atoms.
func Check(l []api.Atom) api.Errno {
	if len(l) > api.MaxText {
		return api.ErrMany
	}
	for i, a := range l {
		if e := mark.Check(a.Mark); e != api.OK {
			return e
		}
		if !sign.Is(a.Sign) {
			return api.ErrRange
		}
		if i > 0 && mark.Order(l[i-1].Mark, a.Mark) >= 0 {
			return api.ErrState
		}
	}
	return api.OK
}

// Text of atoms.
func Text(l []api.Atom) (string, api.Errno) {
	if e := Check(l); e != api.OK {
		return "", e
	}
	out := make([]byte, len(l))
	for i, a := range l {
		out[i] = a.Sign
	}
	return string(out), api.OK
}

// Put atoms.
func Put(l, m []api.Atom) ([]api.Atom, api.Errno) {
	if e := cmp.Or(Check(l), Check(m)); e != api.OK {
		return nil, e
	}
	out := pick(l, func(int) bool { return true })
	for _, a := range m {
		at, found := find(out, a.Mark)
		if found {
			out[at].Sign = min(out[at].Sign, a.Sign)
		} else {
			out = slices.Insert(out, at, api.Atom{Mark: fresh.Mark(a.Mark), Sign: a.Sign})
		}
	}
	if len(out) > api.MaxText {
		return nil, api.ErrMany
	}
	return out, api.OK
}

// Take atoms.
func Take(l []api.Atom, m []api.Mark) ([]api.Atom, api.Errno) {
	if e := Check(l); e != api.OK {
		return nil, e
	}
	// Each mark is looked for among the atoms, not the other way round: atoms are few and in order, marks may be neither.
	taken := make([]bool, len(l))
	for _, x := range m {
		if at, found := find(l, x); found {
			taken[at] = true
		}
	}
	return pick(l, func(i int) bool { return !taken[i] }), api.OK
}

// find a mark among those of atoms in order: where it is, or is to stand.
func find(l []api.Atom, m api.Mark) (at int, found bool) {
	return slices.BinarySearchFunc(l, m, func(a api.Atom, m api.Mark) int { return mark.Order(a.Mark, m) })
}

// pick the atoms at places that are wanted, as new memory.
func pick(l []api.Atom, wanted func(i int) bool) []api.Atom {
	var out []api.Atom
	for i, a := range l {
		if wanted(i) {
			out = append(out, api.Atom{Mark: fresh.Mark(a.Mark), Sign: a.Sign})
		}
	}
	return out
}
