package seen_test

import (
	"math"
	"math/rand"
	"slices"
	"testing"

	"commonplace/api"
	"commonplace/seen"
)

// note of a site, with deeds that are right.
func note(site, number int, needs ...int) api.Note {
	m := api.Mark{Path: []api.Step{{Digit: 3, Site: 0}}, Clock: 1}
	return api.Note{Site: site, Number: number, Needs: needs, Deeds: []api.Deed{{Kind: api.DeedTake, Mark: m, Many: 1}}}
}

// right lists, the least and the greatest among them.
func right() [][]int {
	return [][]int{{0, 0, 0, 0, 0}, {500, 500, 500, 500, 500}, {1, 2, 3, 4, 5}, {5, 4, 3, 2, 1}, {0, 500, 0, 1, 499}, {1, 2, 3, 4, 6}, {2, 2, 3, 4, 5}}
}

type wrongList struct {
	l    []int
	want api.Errno
}

// wrong lists, and why.
func wrong() map[string]wrongList {
	return map[string]wrongList{
		"nothing":              {nil, api.ErrForm},
		"nothing, but not nil": {[]int{}, api.ErrForm},
		"four":                 {[]int{0, 0, 0, 0}, api.ErrForm},
		"six":                  {[]int{0, 0, 0, 0, 0, 0}, api.ErrForm},
		"four, one below 0":    {[]int{0, 0, -1, 0}, api.ErrForm},
		"six, one of 501":      {[]int{501, 0, 0, 0, 0, 0}, api.ErrForm},
		"very many":            {make([]int, 1<<20), api.ErrForm},
		"the first below 0":    {[]int{-1, 0, 0, 0, 0}, api.ErrRange},
		"the last of 501":      {[]int{0, 0, 0, 0, 501}, api.ErrRange},
		"the greatest":         {[]int{0, 0, math.MaxInt, 0, 0}, api.ErrRange},
		"the least":            {[]int{0, math.MinInt, 0, 0, 0}, api.ErrRange},
	}
}

func TestI1Check(t *testing.T) {
	for _, l := range right() {
		if e := seen.Check(l); e != api.OK {
			t.Errorf("%v: %d", l, e)
		}
	}
	for name, c := range wrong() {
		if e := seen.Check(c.l); e != c.want {
			t.Errorf("%s: %d", name, e)
		}
	}
}

func TestI1Join(t *testing.T) {
	for _, c := range []struct{ l, m, want []int }{
		{[]int{0, 0, 0, 0, 0}, []int{0, 0, 0, 0, 0}, []int{0, 0, 0, 0, 0}},
		{[]int{1, 2, 3, 4, 5}, []int{5, 4, 3, 2, 1}, []int{5, 4, 3, 4, 5}},
		{[]int{0, 500, 0, 1, 499}, []int{1, 2, 3, 4, 500}, []int{1, 500, 3, 4, 500}},
		{[]int{9, 0, 0, 0, 0}, []int{0, 0, 0, 0, 9}, []int{9, 0, 0, 0, 9}},
	} {
		for _, both := range [][2][]int{{c.l, c.m}, {c.m, c.l}} {
			if got, e := seen.Join(both[0], both[1]); e != api.OK || !slices.Equal(got, c.want) {
				t.Errorf("%v: %v, %d", both, got, e)
			}
		}
	}
}

func TestI1Covers(t *testing.T) {
	base := []int{1, 2, 3, 4, 5}
	for site := range api.MaxSites {
		more, fewer := slices.Clone(base), slices.Clone(base)
		more[site]++
		fewer[site]--
		mixed := slices.Clone(more)
		mixed[(site+1)%api.MaxSites]--
		for name, c := range map[string]struct {
			l, m []int
			want bool
		}{
			"the same":           {base, base, true},
			"one more":           {more, base, true},
			"one fewer":          {fewer, base, false},
			"one more, one less": {mixed, base, false},
			"of one more":        {base, more, false},
			"of one fewer":       {base, fewer, true},
			"of both":            {base, mixed, false},
		} {
			if got, e := seen.Covers(c.l, c.m); e != api.OK || got != c.want {
				t.Errorf("%s, of site %d: %v, %d", name, site, got, e)
			}
		}
	}
}

// What is wrong with the first list tells, then what is wrong with the second one.
func TestI1Errors(t *testing.T) {
	check := func(name string, l, m []int, want api.Errno) {
		if got, e := seen.Join(l, m); e != want || len(got) != 0 {
			t.Errorf("Join, %s: %v, %d", name, got, e)
		}
		if got, e := seen.Covers(l, m); e != want || got {
			t.Errorf("Covers, %s: %v, %d", name, got, e)
		}
	}
	for name, c := range wrong() {
		for _, l := range right() {
			check(name+" first", c.l, l, c.want)
			check(name+" second", l, c.l, c.want)
		}
		for other, d := range wrong() {
			check(name+", then "+other, c.l, d.l, c.want)
		}
	}
}

func TestI1Ready(t *testing.T) {
	n := note(1, 4, 2, 3, 0, 500, 7)
	for name, c := range map[string]struct {
		l    []int
		want bool
	}{
		"just what it needs":        {[]int{2, 3, 0, 500, 7}, true},
		"more of others":            {[]int{9, 3, 1, 500, 500}, true},
		"one less of the first":     {[]int{1, 3, 0, 500, 7}, false},
		"one less of the last":      {[]int{2, 3, 0, 500, 6}, false},
		"one less of another":       {[]int{2, 3, 0, 499, 7}, false},
		"one less of its own":       {[]int{2, 2, 0, 500, 7}, false},
		"done already":              {[]int{2, 4, 0, 500, 7}, false},
		"more of its own":           {[]int{500, 500, 500, 500, 500}, false},
		"nothing":                   {[]int{0, 0, 0, 0, 0}, false},
		"one more, one less of all": {[]int{3, 3, 0, 499, 8}, false},
	} {
		if got, e := seen.Ready(c.l, n); e != api.OK || got != c.want {
			t.Errorf("%s: %v, %d", name, got, e)
		}
	}
	for site := range api.MaxSites {
		if got, e := seen.Ready(make([]int, 5), note(site, 1, 0, 0, 0, 0, 0)); e != api.OK || !got {
			t.Errorf("the first note of site %d: %v, %d", site, got, e)
		}
	}
}

func TestI1ReadyErrors(t *testing.T) {
	notes := map[string]struct {
		n    api.Note
		want api.Errno
	}{
		"nothing":         {api.Note{}, api.ErrRange},
		"no site":         {note(5, 1, 0, 0, 0, 0, 0), api.ErrRange},
		"number 0":        {note(0, 0, 0, 0, 0, 0, 0), api.ErrRange},
		"needs of four":   {note(0, 1, 0, 0, 0, 0), api.ErrForm},
		"a need of 501":   {note(0, 1, 0, 0, 0, 0, 501), api.ErrRange},
		"needs of itself": {note(0, 1, 1, 0, 0, 0, 0), api.ErrState},
		"no deeds":        {api.Note{Number: 1, Needs: make([]int, 5)}, api.ErrForm},
		"no such kind":    {api.Note{Number: 1, Needs: make([]int, 5), Deeds: make([]api.Deed, 1)}, api.ErrKind},
		"many deeds":      {api.Note{Number: 1, Needs: make([]int, 5), Deeds: make([]api.Deed, 1<<20)}, api.ErrMany},
	}
	for name, c := range notes {
		for _, l := range right() {
			if got, e := seen.Ready(l, c.n); e != c.want || got {
				t.Errorf("%s: %v, %d", name, got, e)
			}
		}
		for other, w := range wrong() {
			if got, e := seen.Ready(w.l, c.n); e != w.want || got {
				t.Errorf("%s ahead of %s: %v, %d", other, name, got, e)
			}
		}
	}
	for name, c := range wrong() {
		if got, e := seen.Ready(c.l, note(0, 1, 0, 0, 0, 0, 0)); e != c.want || got {
			t.Errorf("%s: %v, %d", name, got, e)
		}
	}
}

// drawList of small numbers, so that lists often cover each other.
func drawList(draw *rand.Rand) []int {
	out := make([]int, api.MaxSites)
	for i := range out {
		out[i] = draw.Intn(3)
	}
	return out
}

// covers, as Covers says it of lists that are right.
func covers(t *testing.T, l, m []int) bool {
	t.Helper()
	got, e := seen.Covers(l, m)
	if e != api.OK {
		t.Fatalf("%v, %v: %d", l, m, e)
	}
	return got
}

func TestI2LeastThatCoversBoth(t *testing.T) {
	draw := rand.New(rand.NewSource(1))
	for range 5000 {
		l, m, other := drawList(draw), drawList(draw), drawList(draw)
		both, e := seen.Join(l, m)
		if e != api.OK || !covers(t, both, l) || !covers(t, both, m) {
			t.Fatalf("%v and %v: %v, %d", l, m, both, e)
		}
		if coversBoth := covers(t, other, l) && covers(t, other, m); coversBoth != covers(t, other, both) {
			t.Fatalf("%v and %v: %v, but there is %v", l, m, both, other)
		}
		for site := range both {
			if both[site] == 0 {
				continue
			}
			both[site]--
			if covers(t, both, l) && covers(t, both, m) {
				t.Fatalf("%v and %v: %v is less", l, m, both)
			}
			both[site]++
		}
	}
}

// roomy: the same numbers, with others behind them.
func roomy(l []int) []int {
	out := append(slices.Clone(l), 71, 72, 73)
	return out[:len(l)]
}

func TestP2OnlyReadsAndNewMemory(t *testing.T) {
	for _, a := range right() {
		for _, b := range right() {
			l, m := roomy(a), roomy(b)
			n := note(1, a[1]+1, a...)
			n.Number = min(n.Number, 500)
			first, _ := seen.Join(l, m)
			was := slices.Clone(first)
			seen.Check(l)
			seen.Covers(l, m)
			seen.Ready(l, n)
			spare := []int{71, 72, 73}
			if !slices.Equal(l, a) || !slices.Equal(m, b) || !slices.Equal(n.Needs, a) || !slices.Equal(l[5:8], spare) || !slices.Equal(m[5:8], spare) {
				t.Fatalf("what was handed in is now %v, %v, %v", l[:8], m[:8], n)
			}
			clear(l)
			clear(m)
			if !slices.Equal(first, was) {
				t.Fatalf("the answer shares memory with what was handed in")
			}
			again, _ := seen.Join(a, b)
			clear(first[:cap(first)])
			if !slices.Equal(again, was) {
				t.Fatalf("two answers share memory")
			}
		}
	}
}

func TestP3SameEachTime(t *testing.T) {
	for range 3 {
		for name, c := range wrong() {
			if e := seen.Check(c.l); e != c.want {
				t.Errorf("%s: %d", name, e)
			}
		}
		if got, e := seen.Join([]int{1, 0, 3, 0, 5}, []int{0, 2, 0, 4, 0}); e != api.OK || !slices.Equal(got, []int{1, 2, 3, 4, 5}) {
			t.Errorf("%v, %d", got, e)
		}
		if got, e := seen.Ready(make([]int, 5), note(2, 1, 0, 0, 0, 0, 0)); e != api.OK || !got {
			t.Errorf("%v, %d", got, e)
		}
	}
}
