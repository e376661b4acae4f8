package mark_test

import (
	"fmt"
	"math"
	"reflect"
	"testing"

	"commonplace/api"
	"commonplace/mark"
)

// of: a mark of digits, each with its site, with a clock.
func of(clock int, l ...int) api.Mark {
	out := api.Mark{Clock: clock}
	for i := 0; i+1 < len(l); i += 2 {
		out.Path = append(out.Path, api.Step{Digit: l[i], Site: l[i+1]})
	}
	return out
}

// deep: a mark of so many steps.
func deep(steps, digit, site, clock int) api.Mark {
	out := api.Mark{Clock: clock}
	for range steps {
		out.Path = append(out.Path, api.Step{Digit: digit, Site: site})
	}
	return out
}

// copyOf a mark, with spare room behind its path that must stay as it is.
func copyOf(m api.Mark) api.Mark {
	room := make([]api.Step, len(m.Path)+2)
	copy(room, m.Path)
	room[len(m.Path)] = api.Step{Digit: 77, Site: 7}
	room[len(m.Path)+1] = api.Step{Digit: 88, Site: 8}
	return api.Mark{Path: room[:len(m.Path)], Clock: m.Clock}
}

func whole(m api.Mark) string { return fmt.Sprint(m.Path[:cap(m.Path)], len(m.Path), m.Clock) }

// rising: marks that stand one behind the other, all of them right.
func rising() []api.Mark {
	return []api.Mark{
		of(1, 0, 0, 0, 0, 1, 0), of(1, 0, 0, 0, 1, 1, 4), of(1, 0, 0, 1, 0), of(1, 0, 4, 200, 4), of(1, 1, 0), of(2, 1, 0), of(10000, 1, 0),
		of(9, 1, 0, 0, 0, 1, 3), of(1, 1, 0, 0, 2, 1, 1), of(1, 1, 0, 1, 0), of(2, 1, 0, 1, 1), of(1, 1, 0, 2, 0), of(1, 1, 1), of(1, 1, 3), of(1, 1, 4),
		of(1, 2, 0), of(7, 2, 2), of(5, 3, 0), of(1, 3, 0, 200, 4), of(1, 3, 0, 200, 4, 200, 4), of(6, 4, 0), of(1, 4, 0, 60, 0), of(1, 4, 0, 62, 0),
		of(1, 100, 2), of(1, 150, 2), of(1, 199, 4), of(1, 200, 0), of(1, 200, 4), of(1, 200, 4, 200, 4), deep(8, 200, 4, 1),
	}
}

// wrong: marks that Check refuses, and why.
func wrong() map[string]struct {
	m api.Mark
	e api.Errno
} {
	type row = struct {
		m api.Mark
		e api.Errno
	}
	return map[string]row{
		"nothing":                        {api.Mark{}, api.ErrForm},
		"no steps, a clock":              {of(1), api.ErrForm},
		"no steps, no clock there is":    {of(-1), api.ErrForm},
		"eleven steps":                   {deep(11, 1, 1, 1), api.ErrMany},
		"eleven steps, all else wrong":   {deep(11, -1, 9, 0), api.ErrMany},
		"digit below 0":                  {of(1, -1, 0, 1, 0), api.ErrRange},
		"digit above all":                {of(1, 201, 0, 1, 0), api.ErrRange},
		"last digit above all":           {of(1, 1, 0, 201, 0), api.ErrRange},
		"last digit below 0":             {of(1, 1, 0, -1, 0), api.ErrRange},
		"last digit 0":                   {of(1, 1, 0, 0, 0), api.ErrRange},
		"only digit 0":                   {of(1, 0, 0), api.ErrRange},
		"site below 0":                   {of(1, 1, -1, 1, 0), api.ErrRange},
		"site above all":                 {of(1, 1, 5, 1, 0), api.ErrRange},
		"last site above all":            {of(1, 1, 0, 1, 5), api.ErrRange},
		"clock 0":                        {of(0, 1, 0), api.ErrRange},
		"clock below 0":                  {of(-1, 1, 0), api.ErrRange},
		"clock above all":                {of(10001, 1, 0), api.ErrRange},
		"numbers as great as there are":  {of(math.MaxInt, math.MaxInt, math.MaxInt), api.ErrRange},
		"numbers as small as there are":  {of(math.MinInt, math.MinInt, math.MinInt), api.ErrRange},
		"ten steps, the last one with 0": {of(1, 1, 1, 1, 1, 1, 1, 1, 1, 1, 1, 1, 1, 1, 1, 1, 1, 1, 1, 0, 0), api.ErrRange},
	}
}

func TestA1Check(t *testing.T) {
	right := append(rising(), deep(10, 1, 0, 1), deep(10, 200, 4, 10000), of(1, 0, 0, 0, 4, 1, 0))
	for _, m := range right {
		if e := mark.Check(m); e != api.OK {
			t.Errorf("Check of %v is %d", m, e)
		}
	}
	for name, row := range wrong() {
		if e := mark.Check(row.m); e != row.e {
			t.Errorf("%s: Check is %d, not %d", name, e, row.e)
		}
	}
}

func TestA2Order(t *testing.T) {
	all := rising()
	for i, a := range all {
		for k, b := range all {
			want := 0
			if i < k {
				want = -1
			} else if i > k {
				want = 1
			}
			if got := mark.Order(a, copyOf(b)); got != want {
				t.Errorf("Order of %v and %v is %d, not %d", a, b, got, want)
			}
		}
	}
}

func TestA2OrderOfAnyMarks(t *testing.T) {
	all := []api.Mark{
		of(math.MinInt), of(-1), {}, of(1), of(math.MaxInt),
		of(5, math.MinInt, 0), of(5, math.MinInt, math.MaxInt), of(5, -1, 0), of(5, 0, -3), of(5, 0, 9), of(-7, 300, 300), of(7, 300, 300),
		deep(20, 300, 301, 0), of(5, math.MaxInt, math.MinInt), of(5, math.MaxInt, math.MaxInt),
	}
	for i, a := range all {
		for k, b := range all {
			if got := mark.Order(a, b); got < 0 != (i < k) || got > 0 != (i > k) || got < -1 || got > 1 {
				t.Errorf("Order of %v and %v is %d", a, b, got)
			}
		}
	}
}

func TestA2Next(t *testing.T) {
	for _, c := range []struct {
		m    api.Mark
		by   int
		want api.Mark
		e    api.Errno
	}{
		{of(1, 3, 0), 0, of(1, 3, 0), api.OK},
		{of(1, 3, 0), 1, of(2, 4, 0), api.OK},
		{of(7, 0, 2, 3, 4), 60, of(67, 0, 2, 63, 4), api.OK},
		{of(7, 0, 2, 3, 4), 61, api.Mark{}, api.ErrRange},
		{of(5, 3, 0), -1, api.Mark{}, api.ErrRange},
		{of(1, 140, 0), 60, of(61, 200, 0), api.OK},
		{of(1, 141, 0), 60, api.Mark{}, api.ErrRange},
		{of(9999, 1, 0), 1, of(10000, 2, 0), api.OK},
		{of(9999, 1, 0), 2, api.Mark{}, api.ErrRange},
		{deep(10, 1, 1, 1), 0, deep(10, 1, 1, 1), api.OK},
		{of(1, 3, 0), math.MaxInt, api.Mark{}, api.ErrRange},
		{of(1, 3, 0), math.MinInt, api.Mark{}, api.ErrRange},
	} {
		got, e := mark.Next(c.m, c.by)
		if e != c.e || !reflect.DeepEqual(got, c.want) {
			t.Errorf("Next of %v by %d is %v, %d", c.m, c.by, got, e)
		}
	}
	for name, row := range wrong() {
		for _, by := range []int{-1, 0, 1, 61} {
			if got, e := mark.Next(row.m, by); e != row.e || !reflect.DeepEqual(got, api.Mark{}) {
				t.Errorf("%s: Next by %d is %v, %d", name, by, got, e)
			}
		}
	}
}

func TestA4OrderIsOne(t *testing.T) {
	all := append(rising(), of(1, 300, -4), api.Mark{}, of(3), deep(11, 1, 1, 1))
	for _, a := range all {
		for _, b := range all {
			there, back := mark.Order(a, b), mark.Order(b, a)
			if there != -back || (there == 0) != reflect.DeepEqual(a, b) {
				t.Errorf("Order of %v and %v is %d, and %d the other way", a, b, there, back)
			}
			for _, c := range all {
				if there < 0 && mark.Order(b, c) < 0 && mark.Order(a, c) >= 0 {
					t.Errorf("%v, %v, %v: not in order", a, b, c)
				}
			}
		}
	}
}

func TestP2NextIsNewMemory(t *testing.T) {
	m := copyOf(of(1, 3, 0, 4, 0))
	was := whole(m)
	for _, by := range []int{0, 5} {
		got, _ := mark.Next(m, by)
		got.Path[0].Digit = 99
		_ = append(got.Path, api.Step{Digit: 99})
		if whole(m) != was {
			t.Fatalf("Next by %d changed what it was handed, or kept it", by)
		}
	}
	mark.Check(m)
	mark.Order(m, m)
	if whole(m) != was {
		t.Fatal("Check or Order changed what it was handed")
	}
}

func TestP4ManySteps(t *testing.T) {
	const steps = 1 << 20
	a, b := deep(steps, 1, 1, 1), deep(steps, 1, 1, 2)
	b.Path[steps-1].Site = 2
	if mark.Order(a, b) != -1 || mark.Order(b, a) != 1 || mark.Order(a, a) != 0 || mark.Order(a, deep(steps-1, 1, 1, 9)) != 1 {
		t.Error("Order of marks with many steps")
	}
	if mark.Check(a) != api.ErrMany {
		t.Error("Check of a mark with many steps")
	}
}
