package mark

import (
	"slices"

	"commonplace/api"
)

// nearShare: of the digits that a gap has to spare, one in so many stays free on the side where little is likely to come.
const nearShare = 16

// gap: a path, and the digits from low to high that a last step behind it may have.
type gap struct {
	path      []api.Step
	low, high int
}

// Between two marks.
func Between(a, b api.Mark, site, clock, many int) ([]api.Mark, api.Errno) {
	if e := checkEnds(a, b); e != api.OK {
		return nil, e
	}
	if !isSite(site) || !isClock(clock) || many < 1 || many > api.MaxRun || !isClock(clock+many-1) {
		return nil, api.ErrRange
	}
	// Of equal paths the clock alone decides, and between those there is nothing.
	if len(a.Path) > 0 && len(b.Path) > 0 && orderPaths(a.Path, b.Path) >= 0 {
		return nil, api.ErrState
	}
	if max(len(a.Path), len(b.Path)) > api.MaxDepth-2 {
		return nil, api.ErrMany
	}
	g := findGap(a.Path, b.Path, site, func(g gap) bool { return g.room() >= many })
	digit := g.start(many, len(a.Path), len(b.Path))
	return row(g.path, api.Step{Digit: digit, Site: site}, clock, many), api.OK
}

func checkEnds(a, b api.Mark) api.Errno {
	for _, m := range []api.Mark{a, b} {
		if len(m.Path) == 0 && m.Clock == 0 {
			continue
		}
		if e := Check(m); e != api.OK {
			return e
		}
	}
	return api.OK
}

// findGap between two paths that is wanted, behind beginnings of either, the shortest first: steps are scarce, digits are not.
// One step deeper than both paths all digits are free, so the last gap has room for whatever is asked.
func findGap(a, b []api.Step, site int, wanted func(gap) bool) gap {
	deepest := max(len(a), len(b))
	for n := range deepest {
		if g := gapBehind(beginning(a, n), a, b, site); wanted(g) {
			return g
		}
		// With all of b's steps at its beginning a mark would stand behind b.
		if n >= len(b) {
			continue
		}
		if g := gapBehind(beginning(b, n), a, b, site); wanted(g) {
			return g
		}
	}
	return gapBehind(beginning(a, deepest), a, b, site)
}

// beginning of a path, n steps of it. Where the path has fewer, the least step there is stands for the others:
// so it is behind the path, and behind no mark that is, as no mark ends with digit 0.
func beginning(path []api.Step, n int) []api.Step {
	out := make([]api.Step, n)
	copy(out, path)
	return out
}

// gapBehind a path: a and b bound it only where they begin as the path does.
func gapBehind(path, a, b []api.Step, site int) gap {
	g := gap{path: path, low: 1, high: api.MaxDigit}
	n := len(path)
	if n < len(a) && slices.Equal(a[:n], path) {
		g.low = max(g.low, lowestBehind(a[n], site))
	}
	if n < len(b) && slices.Equal(b[:n], path) {
		g.high = highestAhead(b[n], site)
	}
	return g
}

// lowestBehind a step: the least digit with which a step of a site stands behind it.
func lowestBehind(s api.Step, site int) int {
	if site > s.Site {
		return s.Digit
	}
	return s.Digit + 1
}

// highestAhead of a step: the greatest digit with which a step of a site stands ahead of it.
func highestAhead(s api.Step, site int) int {
	if site < s.Site {
		return s.Digit
	}
	return s.Digit - 1
}

func (g gap) room() int { return g.high - g.low + 1 }

// start: the first digit of many in a gap between marks of so many steps.
// The mark with more steps was likely made last, and whoever asks goes on from it: the new marks are laid near it,
// and most of the room is left on their other side, so that a text that is typed sign by sign does not grow deep.
func (g gap) start(many, stepsAhead, stepsBehind int) int {
	spare := g.room() - many
	switch {
	case stepsAhead > stepsBehind:
		return g.low + spare/nearShare
	case stepsAhead < stepsBehind:
		return g.low + spare - spare/nearShare
	}
	return g.low + spare/2
}

// row of marks behind a path, their last digits rising by one as their clocks do, so that they make one run.
func row(path []api.Step, last api.Step, clock, many int) []api.Mark {
	out := make([]api.Mark, many)
	for i := range out {
		step := api.Step{Digit: last.Digit + i, Site: last.Site}
		out[i] = api.Mark{Path: slices.Concat(path, []api.Step{step}), Clock: clock + i}
	}
	return out
}
