// Package atom: atoms: see doc/02-atom.md.
package atom

import (
	"cmp"
	"slices"

	"commonplace/api"
	"commonplace/mark"
)

// Signs are the bytes from the first to the last one.
const (
	firstSign = 32
	lastSign  = 126
)

// Check atoms.
func Check(l []api.Atom) api.Errno {
	if len(l) > api.MaxText {
		return api.ErrMany
	}
	for i, a := range l {
		if e := mark.Check(a.Mark); e != api.OK {
			return e
		}
		if a.Sign < firstSign || a.Sign > lastSign {
			return api.ErrRange
		}
		if i > 0 && mark.Order(l[i-1].Mark, a.Mark) >= 0 {
			return api.ErrState
		}
	}
	return api.OK
}

// Text of atoms.
func Text(l []api.Atom) (string, api.Errno) {
	if e := Check(l); e != api.OK {
		return "", e
	}
	out := make([]byte, len(l))
	for i, a := range l {
		out[i] = a.Sign
	}
	return string(out), api.OK
}

// Put atoms.
func Put(l, m []api.Atom) ([]api.Atom, api.Errno) {
	if e := cmp.Or(Check(l), Check(m)); e != api.OK {
		return nil, e
	}
	both := slices.Concat(l, m)
	slices.SortFunc(both, func(a, b api.Atom) int {
		return cmp.Or(mark.Order(a.Mark, b.Mark), cmp.Compare(a.Sign, b.Sign))
	})
	// Of one mark the first one stays, and that has the lesser sign now.
	both = slices.CompactFunc(both, func(a, b api.Atom) bool { return mark.Order(a.Mark, b.Mark) == 0 })
	if len(both) > api.MaxText {
		return nil, api.ErrMany
	}
	return pick(both, func(int) bool { return true }), api.OK
}

// Take atoms.
func Take(l []api.Atom, m []api.Mark) ([]api.Atom, api.Errno) {
	if e := Check(l); e != api.OK {
		return nil, e
	}
	// Each mark is looked for among the atoms, not the other way round: atoms are few and in order, marks may be neither.
	taken := make([]bool, len(l))
	for _, x := range m {
		i, found := slices.BinarySearchFunc(l, x, func(a api.Atom, x api.Mark) int { return mark.Order(a.Mark, x) })
		if found {
			taken[i] = true
		}
	}
	return pick(l, func(i int) bool { return !taken[i] }), api.OK
}

// pick the atoms at places that are wanted, as new memory.
func pick(l []api.Atom, wanted func(i int) bool) []api.Atom {
	var out []api.Atom
	for i, a := range l {
		if wanted(i) {
			out = append(out, api.Atom{Mark: api.Mark{Path: slices.Clone(a.Mark.Path), Clock: a.Mark.Clock}, Sign: a.Sign})
		}
	}
	return out
}
