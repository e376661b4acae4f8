package mark_test

import (
	"fmt"
	"math"
	"math/rand"
	"reflect"
	"slices"
	"testing"

	"commonplace/api"
	"commonplace/mark"
)

// fault: what is wrong with marks that Between answered, or nothing.
func fault(l []api.Mark, a, b api.Mark, site, clock, many int) string {
	if len(l) != many {
		return fmt.Sprintf("%d marks, not %d", len(l), many)
	}
	steps := max(len(a.Path), len(b.Path)) + 2
	if many == 1 {
		steps--
	}
	for i, m := range l {
		switch {
		case mark.Check(m) != api.OK:
			return fmt.Sprintf("%v is no mark", m)
		case len(m.Path) > steps:
			return fmt.Sprintf("%v has more than %d steps", m, steps)
		case m.Path[len(m.Path)-1].Site != site:
			return fmt.Sprintf("%v is not of site %d", m, site)
		case m.Clock != clock+i:
			return fmt.Sprintf("%v has not clock %d", m, clock+i)
		case i > 0 && mark.Order(l[i-1], m) >= 0:
			return fmt.Sprintf("%v does not rise", m)
		case len(a.Path) > 0 && mark.Order(a, m) >= 0:
			return fmt.Sprintf("%v is not behind %v", m, a)
		case len(b.Path) > 0 && mark.Order(m, b) >= 0:
			return fmt.Sprintf("%v is not ahead of %v", m, b)
		}
	}
	return ""
}

func samePath(a, b api.Mark) bool { return slices.Equal(a.Path, b.Path) }

func TestA3Between(t *testing.T) {
	all := append([]api.Mark{{}}, rising()...)
	for i, a := range all {
		for k, b := range all {
			if k > 0 && (k <= i || samePath(a, b)) {
				continue
			}
			for site := range api.MaxSites {
				for _, many := range []int{1, 2, 59, 60} {
					l, e := mark.Between(a, b, site, 10000-many+1, many)
					if e != api.OK {
						t.Fatalf("Between of %v and %v, site %d, %d marks: %d", a, b, site, many, e)
					}
					if f := fault(l, a, b, site, 10000-many+1, many); f != "" {
						t.Fatalf("Between of %v and %v, site %d, %d marks: %s", a, b, site, many, f)
					}
				}
			}
		}
	}
}

// randomMark: one that is right, of few different digits, so that many begin alike.
func randomMark(r *rand.Rand) api.Mark {
	out := api.Mark{Clock: 1 + r.Intn(3)}
	digits := []int{0, 0, 1, 2, 100, 199, 200}
	for range 1 + r.Intn(8) {
		out.Path = append(out.Path, api.Step{Digit: digits[r.Intn(len(digits))], Site: r.Intn(2) * 4})
	}
	if last := &out.Path[len(out.Path)-1]; last.Digit == 0 {
		last.Digit = 1
	}
	return out
}

func TestA3BetweenRandomMarks(t *testing.T) {
	r := rand.New(rand.NewSource(1))
	for range 20000 {
		a, b := randomMark(r), randomMark(r)
		if r.Intn(2) == 0 {
			b.Path = append(slices.Clone(a.Path[:r.Intn(len(a.Path)+1)]), b.Path...)
			b.Path = b.Path[:min(len(b.Path), 8)]
			b.Path[len(b.Path)-1].Digit = max(1, b.Path[len(b.Path)-1].Digit)
		}
		if mark.Order(a, b) > 0 {
			a, b = b, a
		}
		site, many := r.Intn(api.MaxSites), 1+r.Intn(api.MaxRun)
		l, e := mark.Between(a, b, site, 5, many)
		if samePath(a, b) {
			if e != api.ErrState || len(l) != 0 {
				t.Fatalf("Between of %v and %v: %d marks, %d", a, b, len(l), e)
			}
			continue
		}
		if e != api.OK {
			t.Fatalf("Between of %v and %v: %d", a, b, e)
		}
		if f := fault(l, a, b, site, 5, many); f != "" {
			t.Fatalf("Between of %v and %v, site %d, %d marks: %s", a, b, site, many, f)
		}
	}
}

// typeOn puts one mark after another where place says, and tells how many found room.
func typeOn(t *testing.T, times, many int, place func(there, last int) int) int {
	var l []api.Mark
	last := 0
	for i := range times {
		at := place(len(l), last)
		var a, b api.Mark
		if at > 0 {
			a = l[at-1]
		}
		if at < len(l) {
			b = l[at]
		}
		got, e := mark.Between(a, b, i%api.MaxSites, 1+i*many, many)
		if max(len(a.Path), len(b.Path)) > api.MaxDepth-2 {
			if e != api.ErrMany {
				t.Fatalf("Between of %v and %v: %d", a, b, e)
			}
			return i
		}
		if e != api.OK {
			t.Fatalf("Between of %v and %v: %d", a, b, e)
		}
		if f := fault(got, a, b, i%api.MaxSites, 1+i*many, many); f != "" {
			t.Fatalf("Between of %v and %v: %s", a, b, f)
		}
		l, last = slices.Insert(l, at, got...), at
	}
	return times
}

func TestA3BetweenOften(t *testing.T) {
	r := rand.New(rand.NewSource(2))
	for name, place := range map[string]func(there, last int) int{
		"behind all":   func(there, last int) int { return there },
		"ahead of all": func(there, last int) int { return 0 },
		"one behind":   func(there, last int) int { return min(there, 1) },
		"wherever":     func(there, last int) int { return r.Intn(there + 1) },
		"typed within": func(there, last int) int {
			if there < 2 {
				return there
			}
			return max(1, min(there-1, last+1))
		},
	} {
		if n := typeOn(t, api.MaxText, 1, place); n < api.MaxText {
			t.Errorf("%s: no room for sign %d of a text", name, n)
		}
	}
	for _, many := range []int{2, 30, 60} {
		typeOn(t, 100, many, func(there, last int) int { return there / 2 })
	}
}

func TestA3Errors(t *testing.T) {
	three, four := of(1, 3, 0), of(1, 4, 0)
	for name, c := range map[string]struct {
		a, b              api.Mark
		site, clock, many int
		e                 api.Errno
	}{
		"site below 0":                 {three, four, -1, 1, 1, api.ErrRange},
		"site above all":               {three, four, 5, 1, 1, api.ErrRange},
		"clock 0":                      {three, four, 0, 0, 1, api.ErrRange},
		"clock above all":              {three, four, 0, 10001, 1, api.ErrRange},
		"none":                         {three, four, 0, 5, 0, api.ErrRange},
		"fewer than none":              {three, four, 0, 5, -1, api.ErrRange},
		"more than a run":              {three, four, 0, 1, 61, api.ErrRange},
		"clocks up to the last":        {three, four, 0, 9941, 60, api.OK},
		"clocks beyond the last":       {three, four, 0, 9942, 60, api.ErrRange},
		"clock and many beyond all":    {three, four, 0, math.MaxInt, math.MaxInt, api.ErrRange},
		"clock and many below all":     {three, four, math.MinInt, math.MinInt, math.MinInt, api.ErrRange},
		"the other way round":          {four, three, 0, 1, 1, api.ErrState},
		"the same":                     {three, three, 0, 1, 1, api.ErrState},
		"by clock alone":               {three, of(2, 3, 0), 0, 1, 1, api.ErrState},
		"by clock alone, other way":    {of(2, 3, 0), three, 0, 1, 1, api.ErrState},
		"a begins with b":              {of(1, 3, 0, 1, 0), three, 0, 1, 1, api.ErrState},
		"range ahead of state":         {four, three, 0, 0, 1, api.ErrRange},
		"state ahead of many":          {deep(9, 2, 0, 1), deep(9, 1, 0, 1), 0, 1, 1, api.ErrState},
		"range ahead of many":          {deep(9, 2, 0, 1), api.Mark{}, 9, 1, 1, api.ErrRange},
		"a of eight steps":             {deep(8, 2, 0, 1), api.Mark{}, 0, 1, 60, api.OK},
		"a of nine steps":              {deep(9, 2, 0, 1), api.Mark{}, 0, 1, 1, api.ErrMany},
		"b of nine steps":              {api.Mark{}, deep(9, 2, 0, 1), 0, 1, 1, api.ErrMany},
		"b of ten steps":               {three, deep(10, 200, 0, 1), 0, 1, 1, api.ErrMany},
		"a of eleven steps":            {deep(11, 2, 0, 1), of(0, 1, 0), 9, 0, 0, api.ErrMany},
		"a without steps, with clock":  {of(1), of(0, 1, 0), 9, 0, 0, api.ErrForm},
		"a wrong":                      {of(0, 1, 0), of(1), 9, 0, 0, api.ErrRange},
		"b without steps, with clock":  {three, of(1), 9, 0, 0, api.ErrForm},
		"b without steps, clock below": {api.Mark{}, of(-1), 0, 1, 1, api.ErrForm},
		"b of eleven steps":            {api.Mark{}, deep(11, 1, 1, 1), 9, 0, 0, api.ErrMany},
		"no ends":                      {api.Mark{}, api.Mark{}, 4, 10000, 1, api.OK},
		"ends without steps, not nil":  {api.Mark{Path: []api.Step{}}, api.Mark{Path: []api.Step{}}, 4, 1, 1, api.OK},
	} {
		l, e := mark.Between(c.a, c.b, c.site, c.clock, c.many)
		if e != c.e || e != api.OK && len(l) != 0 {
			t.Errorf("%s: %d marks, %d, not %d", name, len(l), e, c.e)
		}
	}
	for name, row := range wrong() {
		if len(row.m.Path) == 0 && row.m.Clock == 0 {
			continue
		}
		if l, e := mark.Between(row.m, four, 0, 1, 1); e != row.e || len(l) != 0 {
			t.Errorf("%s as a: %v, %d", name, l, e)
		}
		if l, e := mark.Between(three, row.m, 0, 1, 1); e != row.e || len(l) != 0 {
			t.Errorf("%s as b: %v, %d", name, l, e)
		}
	}
}

func TestA4SitesDiffer(t *testing.T) {
	all := append([]api.Mark{{}}, rising()...)
	for i, a := range all {
		for _, b := range all[i+1:] {
			if samePath(a, b) {
				continue
			}
			var made []api.Mark
			for site := range api.MaxSites {
				l, _ := mark.Between(a, b, site, 1, 5)
				made = append(made, l...)
			}
			slices.SortFunc(made, mark.Order)
			for k := range made[1:] {
				if mark.Order(made[k], made[k+1]) == 0 {
					t.Fatalf("between %v and %v two sites made %v", a, b, made[k])
				}
			}
		}
	}
}

func TestP2BetweenIsNewMemory(t *testing.T) {
	for _, ends := range [][2]api.Mark{{of(1, 3, 0), of(1, 4, 0)}, {of(1, 3, 0), of(1, 3, 0, 1, 0)}, {{}, of(1, 3, 0, 4, 0)}, {of(1, 3, 0, 4, 0), {}}} {
		a, b := copyOf(ends[0]), copyOf(ends[1])
		was := whole(a) + whole(b)
		l, _ := mark.Between(a, b, 1, 1, 20)
		again, _ := mark.Between(a, b, 1, 1, 20)
		if whole(a)+whole(b) != was {
			t.Fatalf("Between of %v and %v changed what it was handed", ends[0], ends[1])
		}
		for i := range l {
			for k := range l[i].Path {
				l[i].Path[k] = api.Step{Digit: 99, Site: 9}
			}
			_ = append(l[i].Path, api.Step{Digit: 98, Site: 8})
			if i+1 < len(l) && !reflect.DeepEqual(l[i+1], again[i+1]) {
				t.Fatal("two marks share memory")
			}
		}
		if whole(a)+whole(b) != was {
			t.Fatalf("Between of %v and %v kept what it was handed", ends[0], ends[1])
		}
	}
}

func TestP3SameEachTime(t *testing.T) {
	a, b := of(1, 3, 0), of(1, 3, 0, 7, 2)
	first, _ := mark.Between(a, b, 1, 9, 3)
	mark.Between(a, api.Mark{}, 2, 1, 60)
	mark.Next(a, 3)
	second, _ := mark.Between(copyOf(a), copyOf(b), 1, 9, 3)
	if !reflect.DeepEqual(first, second) {
		t.Errorf("%v, then %v", first, second)
	}
}

// Put (doc/05) leans on it: what is put at once is one run.
func TestMarksMakeOneRun(t *testing.T) {
	l, _ := mark.Between(of(1, 3, 0), of(1, 4, 0), 2, 5, 60)
	for i := range l[1:] {
		if next, e := mark.Next(l[i], 1); e != api.OK || mark.Order(next, l[i+1]) != 0 {
			t.Fatalf("%v does not come next behind %v", l[i+1], l[i])
		}
	}
}
