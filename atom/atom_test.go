package atom_test

import (
	"fmt"
	"math"
	"math/rand"
	"reflect"
	"slices"
	"testing"

	"commonplace/api"
	"commonplace/atom"
	"commonplace/mark"
)

// of: a mark of digits, each with its site, with a clock.
func of(clock int, l ...int) api.Mark {
	out := api.Mark{Clock: clock}
	for i := 0; i+1 < len(l); i += 2 {
		out.Path = append(out.Path, api.Step{Digit: l[i], Site: l[i+1]})
	}
	return out
}

// atoms: signs, each with its mark.
func atoms(signs string, l ...api.Mark) []api.Atom {
	var out []api.Atom
	for i, m := range l {
		out = append(out, api.Atom{Mark: m, Sign: signs[i]})
	}
	return out
}

// many atoms, rising, from a number on.
func many(from, n int) []api.Atom {
	var out []api.Atom
	for i := from; i < from+n; i++ {
		out = append(out, api.Atom{Mark: of(1, 1+i/200, 0, 1+i%200, 0), Sign: byte(32 + i%95)})
	}
	return out
}

// same: lists without elements are the same, nil or not.
func same(a, b []api.Atom) bool {
	return len(a) == 0 && len(b) == 0 || reflect.DeepEqual(a, b)
}

// wrong: lists that Check refuses, and why.
func wrong() map[string]struct {
	l []api.Atom
	e api.Errno
} {
	type row = struct {
		l []api.Atom
		e api.Errno
	}
	deep := api.Mark{Path: make([]api.Step, 11), Clock: 1}
	return map[string]row{
		"too many":                       {many(0, 301), api.ErrMany},
		"too many, all of them wrong":    {make([]api.Atom, 301), api.ErrMany},
		"no mark":                        {make([]api.Atom, 1), api.ErrForm},
		"a mark with too many steps":     {atoms("a", deep), api.ErrMany},
		"a mark with last digit 0":       {atoms("a", of(1, 0, 0)), api.ErrRange},
		"sign below the first":           {atoms("\x1f", of(1, 1, 0)), api.ErrRange},
		"sign above the last":            {atoms("\x7f", of(1, 1, 0)), api.ErrRange},
		"sign 0":                         {atoms("\x00", of(1, 1, 0)), api.ErrRange},
		"sign 255":                       {atoms("\xff", of(1, 1, 0)), api.ErrRange},
		"not rising":                     {atoms("ab", of(2, 4, 0), of(1, 3, 0)), api.ErrState},
		"one mark twice":                 {atoms("ab", of(1, 3, 0), of(1, 3, 0)), api.ErrState},
		"not rising by clock":            {atoms("ab", of(2, 3, 0), of(1, 3, 0)), api.ErrState},
		"mark ahead of sign":             {atoms("\x1f", of(1)), api.ErrForm},
		"sign ahead of order":            {atoms("a\x1f", of(1, 3, 0), of(1, 3, 0)), api.ErrRange},
		"mark ahead of order":            {atoms("ab", of(1, 3, 0), of(0)), api.ErrForm},
		"first atom tells: order":        {atoms("aab", of(1, 3, 0), of(1, 3, 0), of(1)), api.ErrState},
		"first atom tells: sign":         {atoms("\x1fab", of(1, 3, 0), of(1, 2, 0), of(1)), api.ErrRange},
		"the last one of many is wrong":  {append(many(0, 299), many(0, 1)...), api.ErrState},
		"numbers as great as there are":  {atoms("a", of(math.MaxInt, math.MaxInt, math.MaxInt)), api.ErrRange},
		"numbers as small as there are":  {atoms("a", of(math.MinInt, math.MinInt, math.MinInt)), api.ErrRange},
		"a list that is too long, empty": {make([]api.Atom, 100000), api.ErrMany},
	}
}

func TestB1Check(t *testing.T) {
	for _, l := range [][]api.Atom{nil, {}, many(0, 1), many(0, 300), atoms(" ~", of(1, 3, 0), of(2, 3, 0)), atoms("ab", of(9, 3, 0), of(1, 3, 0, 1, 0))} {
		if e := atom.Check(l); e != api.OK {
			t.Errorf("Check of %v is %d", l, e)
		}
	}
	for name, row := range wrong() {
		if e := atom.Check(row.l); e != row.e {
			t.Errorf("%s: Check is %d, not %d", name, e, row.e)
		}
	}
}

func TestB1Text(t *testing.T) {
	for _, c := range []struct {
		l    []api.Atom
		want string
	}{
		{nil, ""},
		{[]api.Atom{}, ""},
		{atoms("ha", of(1, 3, 0), of(1, 3, 0, 100, 1)), "ha"},
		{atoms(" ~", of(1, 3, 0), of(1, 4, 0)), " ~"},
	} {
		if got, e := atom.Text(c.l); got != c.want || e != api.OK {
			t.Errorf("Text of %v is %q, %d", c.l, got, e)
		}
	}
	if got, _ := atom.Text(many(0, 300)); len(got) != 300 || got[299] != byte(32+299%95) {
		t.Errorf("Text of many is %q", got)
	}
}

func TestB1Put(t *testing.T) {
	one, two, three, between := of(1, 3, 0), of(2, 4, 0), of(1, 5, 0), of(1, 3, 0, 100, 1)
	for _, c := range []struct{ l, m, want []api.Atom }{
		{nil, nil, nil},
		{atoms("a", one), nil, atoms("a", one)},
		{nil, atoms("a", one), atoms("a", one)},
		{atoms("hi", one, two), atoms("a", between), atoms("hai", one, between, two)},
		{atoms("ac", one, three), atoms("b", two), atoms("abc", one, two, three)},
		{atoms("b", two), atoms("ac", one, three), atoms("abc", one, two, three)},
		{atoms("z", one), atoms("a", one), atoms("a", one)},
		{atoms("a", one), atoms("z", one), atoms("a", one)},
		{atoms("a", one), atoms("a", one), atoms("a", one)},
		{atoms("ab", one, two), atoms("AB", one, two), atoms("AB", one, two)},
		{atoms("b", of(2, 3, 0)), atoms("a", of(1, 3, 0)), atoms("ab", of(1, 3, 0), of(2, 3, 0))},
	} {
		if got, e := atom.Put(c.l, c.m); e != api.OK || !same(got, c.want) {
			t.Errorf("Put of %v and %v is %v, %d", c.l, c.m, got, e)
		}
	}
}

func TestB1PutMany(t *testing.T) {
	for _, c := range []struct {
		l, m []api.Atom
		want int
		e    api.Errno
	}{
		{many(0, 299), many(299, 1), 300, api.OK},
		{many(0, 300), many(300, 1), 0, api.ErrMany},
		{many(300, 1), many(0, 300), 0, api.ErrMany},
		{many(0, 300), many(0, 300), 300, api.OK},
		{many(0, 300), many(300, 300), 0, api.ErrMany},
		{many(0, 200), many(100, 200), 300, api.OK},
		{many(0, 200), many(100, 201), 0, api.ErrMany},
		{many(0, 300), nil, 300, api.OK},
	} {
		if got, e := atom.Put(c.l, c.m); e != c.e || len(got) != c.want || atom.Check(got) != api.OK {
			t.Errorf("Put of %d and %d: %d, %d", len(c.l), len(c.m), len(got), e)
		}
	}
}

func TestB1Take(t *testing.T) {
	one, two, three := of(1, 3, 0), of(2, 4, 0), of(1, 5, 0)
	all := atoms("abc", one, two, three)
	for _, c := range []struct {
		l    []api.Atom
		m    []api.Mark
		want []api.Atom
	}{
		{nil, nil, nil},
		{nil, []api.Mark{one}, nil},
		{all, nil, all},
		{all, []api.Mark{}, all},
		{all, []api.Mark{one}, atoms("bc", two, three)},
		{all, []api.Mark{three}, atoms("ab", one, two)},
		{all, []api.Mark{three, one, three, two}, nil},
		{all, []api.Mark{of(2, 3, 0), of(1, 4, 0), of(1, 5, 1), of(1, 5, 0, 1, 0)}, all},
		{all, []api.Mark{{}, of(0, 0, 0), of(math.MaxInt, math.MinInt, math.MaxInt), {Path: make([]api.Step, 1000)}, two, of(-1)}, atoms("ac", one, three)},
	} {
		if got, e := atom.Take(c.l, c.m); e != api.OK || !same(got, c.want) {
			t.Errorf("Take of %v from %v is %v, %d", c.m, c.l, got, e)
		}
	}
}

func TestB1Errors(t *testing.T) {
	good := atoms("a", of(1, 3, 0))
	for name, row := range wrong() {
		if got, e := atom.Text(row.l); got != "" || e != row.e {
			t.Errorf("%s: Text is %q, %d", name, got, e)
		}
		if got, e := atom.Put(row.l, good); len(got) != 0 || e != row.e {
			t.Errorf("%s: Put is %v, %d", name, got, e)
		}
		if got, e := atom.Put(good, row.l); len(got) != 0 || e != row.e {
			t.Errorf("%s, put: Put is %v, %d", name, got, e)
		}
		if got, e := atom.Take(row.l, []api.Mark{{}}); len(got) != 0 || e != row.e {
			t.Errorf("%s: Take is %v, %d", name, got, e)
		}
		for other, second := range wrong() {
			if _, e := atom.Put(row.l, second.l); e != row.e {
				t.Errorf("%s, then %s: Put is %d", name, other, e)
			}
		}
	}
}

// lists of atoms that have some marks in common, with different signs.
func lists(r *rand.Rand) [][]api.Atom {
	var out [][]api.Atom
	for range 5 {
		var l []api.Atom
		for i := range 40 {
			if r.Intn(3) == 0 {
				l = append(l, api.Atom{Mark: of(1+i%3, 1+i/6, i%6/3), Sign: byte(32 + r.Intn(95))})
			}
		}
		out = append(out, l)
	}
	return out
}

// putAll lists, one by one.
func putAll(t *testing.T, ls [][]api.Atom) []api.Atom {
	var out []api.Atom
	for _, l := range ls {
		var e api.Errno
		if out, e = atom.Put(out, l); e != api.OK {
			t.Fatalf("Put of %v: %d", l, e)
		}
	}
	return out
}

func TestB2WhateverOrder(t *testing.T) {
	r := rand.New(rand.NewSource(1))
	for range 200 {
		ls := lists(r)
		want := putAll(t, ls)
		twice := append(slices.Clone(ls), ls...)
		r.Shuffle(len(twice), func(i, k int) { twice[i], twice[k] = twice[k], twice[i] })
		if got := putAll(t, twice); !same(got, want) {
			t.Fatalf("%v in another order is %v", want, got)
		}
	}
}

func TestB2TakenIsNotThere(t *testing.T) {
	r := rand.New(rand.NewSource(2))
	for range 200 {
		all := putAll(t, lists(r))
		var marks []api.Mark
		var want []api.Atom
		for _, a := range all {
			if r.Intn(2) == 0 {
				marks = append(marks, a.Mark)
			} else {
				want = append(want, a)
			}
		}
		r.Shuffle(len(marks), func(i, k int) { marks[i], marks[k] = marks[k], marks[i] })
		got, e := atom.Take(all, marks)
		if e != api.OK || !same(got, want) {
			t.Fatalf("Take of %v is %v, %d", marks, got, e)
		}
		if again, _ := atom.Take(got, marks); !same(again, want) {
			t.Fatalf("Take of %v, again, is %v", marks, again)
		}
	}
}

// roomy: the same atoms, with spare room behind the list and each path.
func roomy(l []api.Atom) []api.Atom {
	out := make([]api.Atom, len(l), 3*len(l))
	for i, a := range l {
		path := append(make([]api.Step, 0, len(a.Mark.Path)+2), a.Mark.Path...)
		out[i] = api.Atom{Mark: api.Mark{Path: path, Clock: a.Mark.Clock}, Sign: a.Sign}
	}
	return out
}

// whole: all that a list has, its spare room too.
func whole(l []api.Atom) string {
	s := fmt.Sprint(len(l), l[:cap(l)])
	for _, a := range l {
		s += fmt.Sprint(a.Mark.Path[:cap(a.Mark.Path)])
	}
	return s
}

// spoil an answer: its list, its paths, and the room behind them.
func spoil(l []api.Atom) {
	for i := range l {
		for k := range l[i].Mark.Path {
			l[i].Mark.Path[k] = api.Step{Digit: 99, Site: 9}
		}
		_ = append(l[i].Mark.Path, api.Step{Digit: 98, Site: 8})
		l[i].Sign = 0
	}
	_ = append(l, api.Atom{Sign: 1})
}

func TestP2NewMemory(t *testing.T) {
	l, m := roomy(many(0, 10)), roomy(many(5, 10))
	marks := []api.Mark{m[9].Mark, l[2].Mark, m[0].Mark}
	was, wasMarks := whole(l)+whole(m), fmt.Sprint(marks)
	put, _ := atom.Put(l, m)
	onlyL, _ := atom.Put(l, nil)
	onlyM, _ := atom.Put(nil, m)
	taken, _ := atom.Take(l, marks)
	none, _ := atom.Take(l, nil)
	for _, x := range [][]api.Atom{put, onlyL, onlyM, taken, none} {
		spoil(x)
	}
	if whole(l)+whole(m) != was || fmt.Sprint(marks) != wasMarks {
		t.Error("what was handed in is not as it was")
	}
}

func TestP2NoTwoShare(t *testing.T) {
	put, _ := atom.Put(many(0, 5), many(3, 5))
	taken, _ := atom.Take(many(0, 8), nil)
	for _, l := range [][]api.Atom{put, taken} {
		for i := range l[1:] {
			was := fmt.Sprint(l[i+1:])
			spoil(l[i : i+1 : i+1])
			if fmt.Sprint(l[i+1:]) != was {
				t.Fatal("two atoms of an answer share memory")
			}
		}
	}
}

func TestP3SameEachTime(t *testing.T) {
	l, m := atoms("ab", of(1, 3, 0), of(2, 4, 0)), atoms("Ac", of(1, 3, 0), of(9, 9, 0))
	first, _ := atom.Put(l, m)
	atom.Take(first, []api.Mark{of(1, 3, 0)})
	second, _ := atom.Put(roomy(l), roomy(m))
	if !same(first, second) {
		t.Errorf("%v, then %v", first, second)
	}
}

func TestP4ManyMarks(t *testing.T) {
	long := api.Mark{Path: make([]api.Step, 1<<18), Clock: 1}
	marks := make([]api.Mark, 1<<18)
	for i := range marks {
		marks[i] = long
	}
	l := many(0, 300)
	marks[len(marks)-1] = l[7].Mark
	got, e := atom.Take(l, marks)
	if e != api.OK || len(got) != 299 || mark.Order(got[7].Mark, l[8].Mark) != 0 {
		t.Errorf("Take of many marks: %d, %d", len(got), e)
	}
}
