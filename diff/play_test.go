package diff_test

import (
	"fmt"
	"math"
	"slices"
	"testing"

	"commonplace/api"
	"commonplace/diff"
)

func TestG1Play(t *testing.T) {
	for name, c := range map[string]struct {
		s    string
		l    []api.Edit
		want string
	}{
		"none":                          {"hello", nil, "hello"},
		"none, not nil":                 {"hello", []api.Edit{}, "hello"},
		"none of nothing":               {"", nil, ""},
		"one":                           {"hello", []api.Edit{put(5, "!")}, "hello!"},
		"put, then take of both":        {"hello", []api.Edit{put(2, "XY"), take(0, 3)}, "Yllo"},
		"take all, then put":            {"hello", []api.Edit{take(0, 5), put(0, "new")}, "new"},
		"places are those of that time": {"ab", []api.Edit{put(2, "c"), put(3, "d"), take(0, 1), take(2, 1)}, "bc"},
		"edits of no signs":             {"hello", []api.Edit{put(5, ""), take(5, 0)}, "hello"},
		"more than a run has":           {"ab", []api.Edit{put(1, xs(298))}, "a" + xs(298) + "b"},
		"full, then less, then full":    {xs(300), []api.Edit{take(0, 299), put(1, ys(299))}, "x" + ys(299)},
	} {
		if got, e := diff.Play(c.s, c.l); e != api.OK || got != c.want {
			t.Errorf("%s: %q, %d", name, got, e)
		}
	}
}

func TestG1PlayErrors(t *testing.T) {
	kind, form := api.Edit{Kind: 3}, api.Edit{Kind: api.EditPut, Many: 1}
	for name, c := range map[string]struct {
		s    string
		l    []api.Edit
		want api.Errno
	}{
		"kind":                          {"hello", []api.Edit{kind}, api.ErrKind},
		"kind 0":                        {"hello", make([]api.Edit, 1), api.ErrKind},
		"form of a put":                 {"hello", []api.Edit{form}, api.ErrForm},
		"form of a take":                {"hello", []api.Edit{{Kind: api.EditTake, Text: "a"}}, api.ErrForm},
		"place below 0":                 {"hello", []api.Edit{put(-1, "a")}, api.ErrRange},
		"place beyond the end":          {"hello", []api.Edit{put(6, "a")}, api.ErrRange},
		"more than there are":           {"hello", []api.Edit{take(0, 6)}, api.ErrRange},
		"as many as there may be":       {"hello", []api.Edit{take(1, math.MaxInt)}, api.ErrRange},
		"no sign":                       {"hello", []api.Edit{put(0, "\n")}, api.ErrRange},
		"too many":                      {"hello", []api.Edit{put(0, xs(296))}, api.ErrMany},
		"behind one that is right":      {"hello", []api.Edit{put(5, "!"), kind}, api.ErrKind},
		"gone already":                  {"hello", []api.Edit{take(0, 3), take(0, 3)}, api.ErrRange},
		"too many on the way":           {xs(300), []api.Edit{put(0, "a"), take(0, 300)}, api.ErrMany},
		"the first one tells":           {"hello", []api.Edit{take(0, 6), kind, form}, api.ErrRange},
		"the first one tells, not less": {"hello", []api.Edit{kind, form, take(0, 6)}, api.ErrKind},
		"a text too long":               {xs(301), []api.Edit{kind}, api.ErrMany},
		"a text of no signs":            {"a\n", []api.Edit{kind}, api.ErrRange},
		"a text of no signs, all taken": {"a\n", []api.Edit{take(0, 2)}, api.ErrRange},
	} {
		if got, e := diff.Play(c.s, c.l); e != c.want || got != "" {
			t.Errorf("%s: %q, %d", name, got, e)
		}
	}
}

// Where nothing is played nothing is looked at: Play has no errors but those of its edits.
func TestG1PlayNothing(t *testing.T) {
	for _, s := range []string{xs(301), "a\n", "\xff"} {
		if got, e := diff.Play(s, nil); e != api.OK || got != s {
			t.Errorf("%q: %q, %d", s, got, e)
		}
	}
}

func TestP2PlayOnlyReads(t *testing.T) {
	room := []api.Edit{put(2, "XY"), take(0, 3), put(0, "behind"), take(7, 7)}
	was := slices.Clone(room)
	diff.Play("hello", room[:2])
	diff.Play("", room[:2])
	if !slices.Equal(room, was) {
		t.Errorf("what was handed in is now %v", room)
	}
}

func TestP3PlaySameEachTime(t *testing.T) {
	l := []api.Edit{put(2, "XY"), take(0, 3)}
	for i := range 3 {
		if got, e := diff.Play("hello", l); e != api.OK || got != "Yllo" {
			t.Errorf("time %d: %q, %d", i, got, e)
		}
		diff.Play(fmt.Sprint(i), l)
	}
}

func TestP4PlayMany(t *testing.T) {
	const many = 1 << 16
	l := slices.Repeat([]api.Edit{put(300, ""), take(299, 1), put(299, "y")}, many)
	if got, e := diff.Play(xs(300), l); e != api.OK || got != xs(299)+"y" {
		t.Errorf("very many edits: %q, %d", got, e)
	}
	l[len(l)-1].Kind = 0
	if got, e := diff.Play(xs(300), l); e != api.ErrKind || got != "" {
		t.Errorf("very many edits, the last one wrong: %q, %d", got, e)
	}
	if got, e := diff.Play(xs(1<<20), l); e != api.ErrMany || got != "" {
		t.Errorf("a very long text: %d", e)
	}
}
