// Package mark: marks: see doc/01-mark.md.
package mark

import (
	"cmp"
	"slices"

	"commonplace/api"
)

// Check a mark.
func Check(m api.Mark) api.Errno {
	steps := len(m.Path)
	switch {
	case steps > api.MaxDepth:
		return api.ErrMany
	case steps == 0:
		return api.ErrForm
	}
	wrong := func(s api.Step) bool { return !isDigit(s.Digit) || !isSite(s.Site) }
	if slices.ContainsFunc(m.Path, wrong) || m.Path[steps-1].Digit == 0 || !isClock(m.Clock) {
		return api.ErrRange
	}
	return api.OK
}

// Order of two marks.
func Order(a, b api.Mark) int {
	return cmp.Or(orderPaths(a.Path, b.Path), cmp.Compare(a.Clock, b.Clock))
}

// Next of a mark.
func Next(m api.Mark, by int) (api.Mark, api.Errno) {
	if e := Check(m); e != api.OK {
		return api.Mark{}, e
	}
	if by < 0 || by > api.MaxRun {
		return api.Mark{}, api.ErrRange
	}
	next := api.Mark{Path: slices.Clone(m.Path), Clock: m.Clock + by}
	next.Path[len(next.Path)-1].Digit += by
	if Check(next) != api.OK {
		return api.Mark{}, api.ErrRange
	}
	return next, api.OK
}

func orderPaths(a, b []api.Step) int {
	return slices.CompareFunc(a, b, func(s, t api.Step) int {
		return cmp.Or(cmp.Compare(s.Digit, t.Digit), cmp.Compare(s.Site, t.Site))
	})
}

func isDigit(n int) bool { return n >= 0 && n <= api.MaxDigit }

func isSite(n int) bool { return n >= 0 && n < api.MaxSites }

func isClock(n int) bool { return n >= 1 && n <= api.MaxClock }
