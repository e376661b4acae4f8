package edit_test

import (
	"math"
	"testing"

	"commonplace/api"
	"commonplace/edit"
)

func plainPut(at int, text string) api.Edit {
	return api.Edit{Kind: api.EditPut, At: at, Text: text}
}

func plainTake(at, many int) api.Edit { return api.Edit{Kind: api.EditTake, At: at, Many: many} }

func TestE1Plain(t *testing.T) {
	for name, c := range map[string]struct {
		s    string
		e    api.Edit
		want string
	}{
		"put into nothing":            {"", plainPut(0, "hi"), "hi"},
		"put ahead of all":            {"hello", plainPut(0, "XY"), "XYhello"},
		"put within":                  {"hello", plainPut(2, "XY"), "heXYllo"},
		"put ahead of the last":       {"hello", plainPut(4, "X"), "hellXo"},
		"put behind all":              {"hello", plainPut(5, "!"), "hello!"},
		"put nothing":                 {"hello", plainPut(3, ""), "hello"},
		"put nothing into nothing":    {"", plainPut(0, ""), ""},
		"put the least and the last":  {"~ ", plainPut(1, " ~"), "~ ~ "},
		"put more than a run has":     {"ab", plainPut(1, xs(298)), "a" + xs(298) + "b"},
		"put up to as many as may be": {xs(299), plainPut(299, "a"), xs(299) + "a"},
		"put nothing into a full one": {xs(300), plainPut(300, ""), xs(300)},
		"take the first one":          {"hello", plainTake(0, 1), "ello"},
		"take within":                 {"hello", plainTake(1, 3), "ho"},
		"take the last one":           {"hello", plainTake(4, 1), "hell"},
		"take all":                    {"hello", plainTake(0, 5), ""},
		"take all of a full one":      {xs(300), plainTake(0, 300), ""},
		"take nothing":                {"hello", plainTake(2, 0), "hello"},
		"take nothing behind all":     {"hello", plainTake(5, 0), "hello"},
		"take nothing of nothing":     {"", plainTake(0, 0), ""},
	} {
		if got, e := edit.Plain(c.s, c.e); e != api.OK || got != c.want {
			t.Errorf("%s: %q, %d", name, got, e)
		}
	}
}

func TestE1PutErrors(t *testing.T) {
	with := func(e api.Edit, many int) api.Edit {
		e.Many = many
		return e
	}
	for name, c := range map[string]struct {
		s string
		e api.Edit
		n api.Errno
	}{
		"many":                          {"hello", with(plainPut(0, "a"), 1), api.ErrForm},
		"many below 0":                  {"hello", with(plainPut(0, "a"), -1), api.ErrForm},
		"place below 0":                 {"hello", plainPut(-1, "a"), api.ErrRange},
		"place below 0, of nothing":     {"hello", plainPut(-1, ""), api.ErrRange},
		"place beyond the end":          {"hello", plainPut(6, "a"), api.ErrRange},
		"place beyond nothing":          {"", plainPut(1, ""), api.ErrRange},
		"the least place":               {"hello", plainPut(math.MinInt, "a"), api.ErrRange},
		"the greatest place":            {"hello", plainPut(math.MaxInt, "a"), api.ErrRange},
		"sign 31":                       {"hello", plainPut(0, "a\x1f"), api.ErrRange},
		"sign 127":                      {"hello", plainPut(0, "\x7fa"), api.ErrRange},
		"sign 0":                        {"hello", plainPut(0, "a\x00a"), api.ErrRange},
		"signs above all":               {"hello", plainPut(0, "é"), api.ErrRange},
		"one too many":                  {xs(300), plainPut(0, "a"), api.ErrMany},
		"too many of both":              {"hello", plainPut(5, xs(296)), api.ErrMany},
		"very many":                     {"", plainPut(0, xs(1<<20)), api.ErrMany},
		"form ahead of range":           {"hello", with(plainPut(-1, "\n"), 1), api.ErrForm},
		"form ahead of many":            {xs(300), with(plainPut(0, "a"), 1), api.ErrForm},
		"range ahead of many: place":    {xs(300), plainPut(301, "a"), api.ErrRange},
		"range ahead of many: its sign": {xs(300), plainPut(0, "\x7f"), api.ErrRange},
	} {
		if got, e := edit.Plain(c.s, c.e); e != c.n || got != "" {
			t.Errorf("%s: %q, %d", name, got, e)
		}
	}
}

func TestE1TakeErrors(t *testing.T) {
	with := func(e api.Edit, text string) api.Edit {
		e.Text = text
		return e
	}
	for name, c := range map[string]struct {
		s string
		e api.Edit
		n api.Errno
	}{
		"a text":                       {"hello", with(plainTake(0, 1), "a"), api.ErrForm},
		"a text of no signs":           {"hello", with(plainTake(0, 1), "\n"), api.ErrForm},
		"place below 0":                {"hello", plainTake(-1, 2), api.ErrRange},
		"fewer than none":              {"hello", plainTake(2, -1), api.ErrRange},
		"one more than there are":      {"hello", plainTake(1, 5), api.ErrRange},
		"one of nothing":               {"", plainTake(0, 1), api.ErrRange},
		"none beyond the end":          {"hello", plainTake(6, 0), api.ErrRange},
		"fewer than none, beyond":      {"hello", plainTake(6, -1), api.ErrRange},
		"as many as there may be":      {"hello", plainTake(1, math.MaxInt), api.ErrRange},
		"as far as there may be":       {"hello", plainTake(math.MaxInt, 1), api.ErrRange},
		"both":                         {"hello", plainTake(math.MaxInt, math.MaxInt), api.ErrRange},
		"both, together a place of it": {"hello", plainTake(math.MaxInt, math.MinInt), api.ErrRange},
		"as few as there may be":       {"hello", plainTake(0, math.MinInt), api.ErrRange},
		"the least place":              {"hello", plainTake(math.MinInt, math.MaxInt), api.ErrRange},
		"form ahead of range":          {"hello", with(plainTake(-1, -1), "a"), api.ErrForm},
	} {
		if got, e := edit.Plain(c.s, c.e); e != c.n || got != "" {
			t.Errorf("%s: %q, %d", name, got, e)
		}
	}
}

// Whatever the edit: what is wrong with the text tells first, then the kind.
func TestE1TextAndKind(t *testing.T) {
	edits := []api.Edit{{}, {Kind: 3}, {Kind: -1}, {Kind: math.MaxInt}, {Kind: math.MinInt}, {Kind: 3, At: -1, Many: -1, Text: "\n"}}
	for _, x := range edits {
		if got, e := edit.Plain("hello", x); e != api.ErrKind || got != "" {
			t.Errorf("%v: %q, %d", x, got, e)
		}
	}
	edits = append(edits, plainPut(0, "a"), plainPut(0, ""), plainTake(0, 1), plainTake(-1, 1), api.Edit{Kind: api.EditPut, Many: 1}, api.Edit{Kind: api.EditTake, Text: "a"})
	for s, want := range map[string]api.Errno{"a\n": api.ErrRange, "\x7f": api.ErrRange, "\x1f": api.ErrRange, "\xff": api.ErrRange, xs(301): api.ErrMany, xs(300) + "\n": api.ErrMany, xs(299) + "\n": api.ErrRange} {
		for _, x := range edits {
			if got, e := edit.Plain(s, x); e != want || got != "" {
				t.Errorf("%q, %v: %q, %d", s, x, got, e)
			}
		}
	}
}
