package caret_test

import (
	"fmt"
	"math"
	"reflect"
	"slices"
	"strings"
	"testing"

	"commonplace/api"
	"commonplace/caret"
	"commonplace/mark"
)

// of: a mark of digits, each with its site, with a clock.
func of(clock int, l ...int) api.Mark {
	out := api.Mark{Clock: clock}
	for i := 0; i+1 < len(l); i += 2 {
		out.Path = append(out.Path, api.Step{Digit: l[i], Site: l[i+1]})
	}
	return out
}

// atoms whose last digits and clocks rise by one, the signs of a text.
func atoms(first api.Mark, text string) []api.Atom {
	var out []api.Atom
	for i := range len(text) {
		path := slices.Clone(first.Path)
		path[len(path)-1].Digit += i
		out = append(out, api.Atom{Mark: api.Mark{Path: path, Clock: first.Clock + i}, Sign: text[i]})
	}
	return out
}

// hello: a state with a sign gone, and one to go when it comes.
func hello() api.State {
	l := atoms(of(1, 3, 0), "hello")
	return api.State{
		Atoms: slices.Concat(l[:1], atoms(of(1, 4, 0, 100, 1), "XY"), l[2:], atoms(of(1, 9, 2), "z")),
		Gone:  []api.Mark{of(2, 4, 0), of(1, 9, 1)},
	}
}

// long: a state of so many atoms, in rows of sixty.
func long(many int) api.State {
	var s api.State
	for i := 0; i < many; i += 60 {
		s.Atoms = append(s.Atoms, atoms(of(1+i, 10+i/60, 0, 1, 0), strings.Repeat("x", min(60, many-i)))...)
	}
	return s
}

// deep: a mark of so many steps.
func deep(steps int) api.Mark {
	return api.Mark{Path: slices.Repeat([]api.Step{{Digit: 1, Site: 1}}, steps), Clock: 1}
}

func isBeginning(m api.Mark) bool { return len(m.Path) == 0 && m.Clock == 0 }

func TestF1Of(t *testing.T) {
	for _, s := range []api.State{{}, {Gone: hello().Gone}, hello(), long(300)} {
		for at := range len(s.Atoms) + 1 {
			c, e := caret.Of(s, at)
			if at == 0 && (e != api.OK || !isBeginning(c)) {
				t.Errorf("at the beginning: %v, %d", c, e)
			}
			if at > 0 && (e != api.OK || !reflect.DeepEqual(c, s.Atoms[at-1].Mark)) {
				t.Errorf("at %d: %v, %d", at, c, e)
			}
			if n, e := caret.At(s, c); e != api.OK || n != at {
				t.Errorf("%d came back as %d, %d", at, n, e)
			}
		}
		for _, at := range []int{-1, len(s.Atoms) + 1, math.MinInt, math.MaxInt} {
			if c, e := caret.Of(s, at); e != api.ErrRange || !isBeginning(c) {
				t.Errorf("at %d: %v, %d", at, c, e)
			}
		}
	}
}

func TestF1At(t *testing.T) {
	for name, c := range map[string]struct {
		m    api.Mark
		want int
	}{
		"the beginning":             {api.Mark{}, 0},
		"the beginning, a list":     {api.Mark{Path: []api.Step{}}, 0},
		"ahead of all":              {of(1, 2, 4), 0},
		"ahead of the first's site": {of(9, 2, 0, 200, 4), 0},
		"the first one":             {of(1, 3, 0), 1},
		"a clock behind the first":  {of(2, 3, 0), 1},
		"a step behind the first":   {of(1, 3, 0, 1, 0), 1},
		"what is gone":              {of(2, 4, 0), 1},
		"ahead of those within":     {of(1, 4, 0, 99, 4), 1},
		"the first one within":      {of(1, 4, 0, 100, 1), 2},
		"between those within":      {of(1, 4, 0, 100, 2), 2},
		"the last one within":       {of(2, 4, 0, 101, 1), 3},
		"behind those within":       {of(1, 4, 1), 3},
		"a clock ahead of it":       {of(2, 5, 0), 3},
		"the one behind those":      {of(3, 5, 0), 4},
		"what is to go":             {of(1, 9, 1), 6},
		"the last one":              {of(1, 9, 2), 7},
		"a clock behind the last":   {of(2, 9, 2), 7},
		"behind all":                {of(10000, 200, 4), 7},
		"of as many steps as may":   {deep(10), 0},
	} {
		if n, e := caret.At(hello(), c.m); e != api.OK || n != c.want {
			t.Errorf("%s: %d, %d", name, n, e)
		}
	}
	for _, m := range []api.Mark{{}, of(1, 3, 0), deep(10)} {
		if n, e := caret.At(api.State{}, m); e != api.OK || n != 0 {
			t.Errorf("of nothing: %d, %d", n, e)
		}
	}
}

// At is what counting one by one tells.
func TestF1AtCounted(t *testing.T) {
	for _, s := range []api.State{hello(), long(150), long(300)} {
		for digit := range 20 {
			for _, m := range []api.Mark{of(1, 1+digit, 0), of(7, 1+digit, 1), of(1, digit, 0, 7, 0), of(30, digit, 0, 30, 0), of(200, digit, 0, 60, 0, 1, 1)} {
				want := 0
				for _, a := range s.Atoms {
					if mark.Order(a.Mark, m) <= 0 {
						want++
					}
				}
				if n, e := caret.At(s, m); e != api.OK || n != want {
					t.Errorf("%v: %d, not %d, %d", m, n, want, e)
				}
			}
		}
	}
}

func TestF1WrongMarks(t *testing.T) {
	for name, c := range map[string]struct {
		m api.Mark
		e api.Errno
	}{
		"a clock alone":          {of(1), api.ErrForm},
		"a clock below 0, alone": {of(-1), api.ErrForm},
		"steps without a clock":  {of(0, 3, 0), api.ErrRange},
		"a clock too great":      {of(10001, 3, 0), api.ErrRange},
		"digit 0":                {of(1, 3, 0, 0, 0), api.ErrRange},
		"a digit below 0":        {of(1, -1, 0), api.ErrRange},
		"digit 201":              {of(1, 201, 0), api.ErrRange},
		"site 5":                 {of(1, 3, 5), api.ErrRange},
		"site -1":                {of(1, 3, -1), api.ErrRange},
		"greatest of all":        {of(math.MaxInt, math.MaxInt, math.MaxInt), api.ErrRange},
		"too many steps":         {deep(11), api.ErrMany},
		"too many, all wrong":    {api.Mark{Path: make([]api.Step, 11)}, api.ErrMany},
	} {
		for _, s := range []api.State{{}, hello()} {
			if n, e := caret.At(s, c.m); e != c.e || n != 0 {
				t.Errorf("%s: %d, %d", name, n, e)
			}
		}
	}
}

func TestF1WrongStates(t *testing.T) {
	three, four := of(1, 3, 0), of(2, 4, 0)
	for name, row := range map[string]struct {
		s api.State
		e api.Errno
	}{
		"too many atoms":         {long(301), api.ErrMany},
		"an atom without a mark": {api.State{Atoms: make([]api.Atom, 1)}, api.ErrForm},
		"an atom of no sign":     {api.State{Atoms: atoms(three, "\x7f")}, api.ErrRange},
		"atoms not rising":       {api.State{Atoms: append(atoms(four, "a"), atoms(three, "b")...)}, api.ErrState},
		"too many gone":          {api.State{Gone: make([]api.Mark, 601)}, api.ErrMany},
		"gone without steps":     {api.State{Gone: make([]api.Mark, 1)}, api.ErrForm},
		"gone with clock 0":      {api.State{Gone: []api.Mark{of(0, 3, 0)}}, api.ErrRange},
		"gone and there":         {api.State{Atoms: atoms(three, "a"), Gone: []api.Mark{three}}, api.ErrState},
	} {
		for _, at := range []int{-1, 0, 1, 999} {
			if c, e := caret.Of(row.s, at); e != row.e || !isBeginning(c) {
				t.Errorf("%s: Of %d is %v, %d", name, at, c, e)
			}
		}
		for _, m := range []api.Mark{{}, three, of(1), of(0, 3, 0), deep(11)} {
			if n, e := caret.At(row.s, m); e != row.e || n != 0 {
				t.Errorf("%s: At %v is %d, %d", name, m, n, e)
			}
		}
	}
}

func TestP2NewMemory(t *testing.T) {
	s := hello()
	for i, a := range s.Atoms {
		s.Atoms[i].Mark.Path = append(make([]api.Step, 0, 5), a.Mark.Path...)
	}
	whole := func() string {
		out := fmt.Sprint(s)
		for _, a := range s.Atoms {
			out += fmt.Sprint(a.Mark.Path[:cap(a.Mark.Path)])
		}
		return out
	}
	was := whole()
	for at := range len(s.Atoms) + 1 {
		c, _ := caret.Of(s, at)
		caret.At(s, c)
		for i := range c.Path[:cap(c.Path)] {
			c.Path[:cap(c.Path)][i] = api.Step{Digit: 99, Site: 9}
		}
		if whole() != was {
			t.Fatalf("Of %d shares memory with what was handed in", at)
		}
	}
	c, _ := caret.Of(s, 2)
	s.Atoms[1].Mark.Path[0].Digit = 99
	if !reflect.DeepEqual(c, hello().Atoms[1].Mark) {
		t.Error("a later change is seen in a caret")
	}
}

func TestP3SameEachTime(t *testing.T) {
	for range 2 {
		c, _ := caret.Of(hello(), 3)
		n, _ := caret.At(hello(), c)
		if !reflect.DeepEqual(c, of(2, 4, 0, 101, 1)) || n != 3 {
			t.Errorf("%v, %d", c, n)
		}
		caret.At(long(300), c)
	}
}

func TestP4Many(t *testing.T) {
	const many = 1 << 20
	for _, s := range []api.State{{Atoms: make([]api.Atom, many)}, {Gone: make([]api.Mark, many)}} {
		if c, e := caret.Of(s, many); e != api.ErrMany || !isBeginning(c) {
			t.Errorf("Of a state of very many: %d", e)
		}
		if n, e := caret.At(s, api.Mark{}); e != api.ErrMany || n != 0 {
			t.Errorf("At of a state of very many: %d", e)
		}
	}
	if n, e := caret.At(hello(), api.Mark{Path: make([]api.Step, many), Clock: 1}); e != api.ErrMany || n != 0 {
		t.Errorf("At a mark of very many steps: %d, %d", n, e)
	}
}
