package edit_test

import (
	"fmt"
	"math"
	"math/rand"
	"reflect"
	"slices"
	"testing"

	"commonplace/api"
	"commonplace/edit"
	"commonplace/mark"
	"commonplace/state"
)

// asked: what Put is asked for.
type asked struct {
	s           api.State
	at          int
	text        string
	site, clock int
}

func (a asked) put() ([]api.Deed, api.Errno) {
	return edit.Put(a.s, a.at, a.text, a.site, a.clock)
}

func has(s api.State, m api.Mark) bool {
	isIt := func(n api.Mark) bool { return mark.Order(m, n) == 0 }
	return slices.ContainsFunc(s.Gone, isIt) || slices.ContainsFunc(s.Atoms, func(a api.Atom) bool { return isIt(a.Mark) })
}

// fault of the deeds that Put answered, one by one, or nothing.
func (a asked) fault(l []api.Deed) string {
	signs := 0
	var last api.Mark
	for i, d := range l {
		if d.Kind != api.DeedPut || state.Deed(d) != api.OK {
			return fmt.Sprintf("deed %d is %v", i, d)
		}
		if i > 0 && reflect.DeepEqual(more(last, 1), d.Run.Mark) {
			return fmt.Sprintf("deed %d could be one with that ahead", i)
		}
		for k := range len(d.Run.Text) {
			m := more(d.Run.Mark, k)
			if has(a.s, m) {
				return fmt.Sprintf("%v is in the state", m)
			}
			if m.Path[len(m.Path)-1].Site != a.site || m.Clock != a.clock+signs {
				return fmt.Sprintf("sign %d has mark %v", signs, m)
			}
			if signs >= len(a.text) || d.Run.Text[k] != a.text[signs] {
				return fmt.Sprintf("sign %d is not in its order", signs)
			}
			signs, last = signs+1, m
		}
	}
	if signs != len(a.text) {
		return fmt.Sprintf("%d signs, not %d", signs, len(a.text))
	}
	return ""
}

// check that Put answers what it must; tells the state to which its deeds lead.
func (a asked) check(t *testing.T) api.State {
	t.Helper()
	l, e := a.put()
	if e != api.OK {
		t.Fatalf("%q at %d of %q: %d", a.text, a.at, textOf(a.s), e)
	}
	if f := a.fault(l); f != "" {
		t.Fatalf("%q at %d of %q: %s", a.text, a.at, textOf(a.s), f)
	}
	done, e := state.All(a.s, l)
	want, _ := edit.Plain(textOf(a.s), plainPut(a.at, a.text))
	if e != api.OK || textOf(done) != want || !same(done.Gone, a.s.Gone) {
		t.Fatalf("%q at %d of %q: %q, %d", a.text, a.at, textOf(a.s), textOf(done), e)
	}
	return done
}

func TestE2Put(t *testing.T) {
	twins := api.State{Atoms: slices.Concat(atoms(of(1, 3, 0), "a"), atoms(of(2, 3, 0), "b"), atoms(of(1, 3, 1), "c")), Gone: []api.Mark{of(3, 3, 0)}}
	near := api.State{Atoms: slices.Concat(atoms(of(1, 1, 0), "a"), atoms(of(1, 1, 0, 0, 2, 1, 1), "b"), atoms(of(1, 1, 0, 1, 0), "c"), atoms(of(1, 1, 1), "d"), atoms(of(1, 200, 4, 200, 4), "e"))}
	deepest := api.State{Atoms: append(atoms(deep(8), "a"), atoms(of(1, 1, 2), "b")...)}
	for name, s := range map[string]api.State{"nothing": {}, "hello": hello(), "near": near, "deepest": deepest, "long": long(240), "all gone": {Gone: hello().Gone}} {
		t.Run(name, func(t *testing.T) {
			for at := range len(s.Atoms) + 1 {
				for _, text := range []string{"a", "bc", " ~", xs(59), xs(60)} {
					for site := range api.MaxSites {
						asked{s, at, text, site, 500}.check(t)
						asked{s, at, text, site, 10001 - len(text)}.check(t)
					}
				}
			}
		})
	}
	for _, at := range []int{0, 2, 3} {
		asked{twins, at, "hi", 0, 4}.check(t)
	}
}

// The clock may be just beyond those of the site; those of other sites do not matter.
func TestE2Clock(t *testing.T) {
	for site, clock := range []int{6, 8, 2, 5, 1} {
		for at := range 8 {
			asked{hello(), at, "ab", site, clock}.check(t)
		}
		for _, late := range []int{clock - 1, 1, 0, -1, math.MinInt} {
			want := api.ErrState
			if site == 4 {
				want = api.ErrRange
			}
			if late >= clock {
				continue
			}
			if l, e := (asked{hello(), 2, "ab", site, late}).put(); e != want || len(l) != 0 {
				t.Errorf("site %d, clock %d: %v, %d", site, late, l, e)
			}
		}
	}
}

// A text may be filled up to the last sign, and not beyond.
func TestE2Full(t *testing.T) {
	for _, n := range []int{1, 2, 60} {
		asked{long(300 - n), 100, xs(n), 1, 1}.check(t)
		if l, e := (asked{long(301 - n), 100, xs(n), 1, 1}).put(); e != api.ErrMany || len(l) != 0 {
			t.Errorf("%d signs, one too many: %v, %d", n, l, e)
		}
	}
}

func TestE2Errors(t *testing.T) {
	s, none := hello(), api.State{}
	twins := api.State{Atoms: append(atoms(of(1, 3, 0), "a"), atoms(of(2, 3, 0), "b")...)}
	nine := api.State{Atoms: atoms(deep(9), "a")}
	for name, c := range map[string]struct {
		a asked
		e api.Errno
	}{
		"place below 0":              {asked{s, -1, "a", 0, 9}, api.ErrRange},
		"place beyond the end":       {asked{s, 8, "a", 0, 9}, api.ErrRange},
		"place beyond nothing":       {asked{none, 1, "a", 0, 9}, api.ErrRange},
		"the least place":            {asked{s, math.MinInt, "a", 0, 9}, api.ErrRange},
		"the greatest place":         {asked{s, math.MaxInt, "a", 0, 9}, api.ErrRange},
		"a clock of an atom":         {asked{s, 2, "a", 0, 5}, api.ErrState},
		"a clock of one gone":        {asked{s, 2, "a", 3, 4}, api.ErrState},
		"more than a run has":        {asked{none, 0, xs(61), 0, 1}, api.ErrMany},
		"very many":                  {asked{none, 0, xs(1 << 20), 0, 1}, api.ErrMany},
		"no signs":                   {asked{s, 2, "", 0, 9}, api.ErrForm},
		"no signs into a full one":   {asked{long(300), 2, "", 1, 9}, api.ErrForm},
		"sign 31":                    {asked{s, 2, "a\x1f", 0, 9}, api.ErrRange},
		"sign 127":                   {asked{s, 2, "\x7f", 0, 9}, api.ErrRange},
		"signs above all":            {asked{s, 2, "é", 0, 9}, api.ErrRange},
		"site -1":                    {asked{s, 2, "a", -1, 9}, api.ErrRange},
		"site 5":                     {asked{s, 2, "a", 5, 9}, api.ErrRange},
		"the greatest site":          {asked{s, 2, "a", math.MaxInt, 9}, api.ErrRange},
		"clock 0 of a new site":      {asked{s, 2, "a", 4, 0}, api.ErrRange},
		"clocks beyond the last":     {asked{s, 2, "ab", 0, 10000}, api.ErrRange},
		"one clock beyond":           {asked{s, 2, "a", 0, 10001}, api.ErrRange},
		"the greatest clock":         {asked{s, 2, "ab", 0, math.MaxInt}, api.ErrRange},
		"ahead by clock alone":       {asked{twins, 1, "a", 1, 1}, api.ErrState},
		"too many steps ahead":       {asked{nine, 1, "a", 0, 1}, api.ErrMany},
		"too many steps behind":      {asked{nine, 0, "a", 0, 1}, api.ErrMany},
		"place ahead of clock":       {asked{s, 8, "a", 0, 1}, api.ErrRange},
		"place ahead of many":        {asked{s, 8, xs(61), 0, 9}, api.ErrRange},
		"place ahead of form":        {asked{s, -1, "", 0, 9}, api.ErrRange},
		"clock ahead of many":        {asked{s, 2, xs(61), 0, 1}, api.ErrState},
		"clock ahead of form":        {asked{s, 2, "", 0, 1}, api.ErrState},
		"clock ahead of its signs":   {asked{s, 2, "\n", 0, 1}, api.ErrState},
		"many ahead of its signs":    {asked{s, 2, xs(60) + "\n", 0, 9}, api.ErrMany},
		"many ahead of site":         {asked{long(300), 2, "a", 5, 9}, api.ErrMany},
		"form ahead of site":         {asked{s, 2, "", 5, 9}, api.ErrForm},
		"form ahead of clock":        {asked{s, 2, "", 4, 0}, api.ErrForm},
		"signs ahead of their place": {asked{twins, 1, "\n", 1, 1}, api.ErrRange},
		"signs ahead of many steps":  {asked{nine, 1, "\n", 0, 1}, api.ErrRange},
		"site ahead of their place":  {asked{twins, 1, "a", 5, 1}, api.ErrRange},
		"clock ahead of many steps":  {asked{nine, 1, "a", 0, 0}, api.ErrRange},
	} {
		if l, e := c.a.put(); e != c.e || len(l) != 0 {
			t.Errorf("%s: %v, %d", name, l, e)
		}
	}
	for name, row := range wrongStates() {
		for _, a := range []asked{{row.s, 0, "a", 4, 1}, {row.s, -1, "", 0, 0}, {row.s, 999, xs(61), 9, -1}} {
			if l, e := a.put(); e != row.e || len(l) != 0 {
				t.Errorf("%s: %v, %d", name, l, e)
			}
		}
	}
}

// Many sites put and take, one after the other: what is put stands where it was put.
func TestE2AllDayLong(t *testing.T) {
	r := rand.New(rand.NewSource(1))
	for range 20 {
		var s api.State
		clocks := [api.MaxSites]int{1, 1, 1, 1, 1}
		for range 100 {
			at, site := r.Intn(len(s.Atoms)+1), r.Intn(api.MaxSites)
			if many := r.Intn(len(s.Atoms) - at + 1); r.Intn(3) == 0 && len(s.Gone)+many <= api.MaxGone {
				s = checkTake(t, s, at, many)
				continue
			}
			text := make([]byte, 1+r.Intn(8))
			for i := range text {
				text[i] = byte(32 + r.Intn(95))
			}
			a := asked{s, at, string(text), site, clocks[site]}
			if _, e := a.put(); e == api.ErrMany && (len(s.Atoms)+len(text) > api.MaxText || a.isDeep()) {
				continue
			}
			s = a.check(t)
			clocks[site] += len(text)
		}
	}
}

// isDeep: an atom beside the place has too many steps for Between.
func (a asked) isDeep() bool {
	beside := a.s.Atoms[max(a.at-1, 0):min(a.at+1, len(a.s.Atoms))]
	return slices.ContainsFunc(beside, func(x api.Atom) bool { return len(x.Mark.Path) > api.MaxDepth-2 })
}
