package diff_test

import (
	"fmt"
	"math/rand"
	"strings"
	"testing"

	"commonplace/api"
	"commonplace/diff"
	"commonplace/edit"
)

func xs(n int) string { return strings.Repeat("x", n) }

func ys(n int) string { return strings.Repeat("y", n) }

func put(at int, text string) api.Edit { return api.Edit{Kind: api.EditPut, At: at, Text: text} }

func take(at, many int) api.Edit { return api.Edit{Kind: api.EditTake, At: at, Many: many} }

// fewest signs put and taken from a to b, reckoned from the beginnings on, a row at a time.
func fewest(a, b string) int {
	row := make([]int, len(b)+1)
	for j := range row {
		row[j] = j
	}
	for i := range len(a) {
		next := []int{i + 1}
		for j := range len(b) {
			n := 1 + min(row[j+1], next[j])
			if a[i] == b[j] {
				n = min(n, row[j])
			}
			next = append(next, n)
		}
		row = next
	}
	return row[len(b)]
}

// wrongForm: what is wrong with an edit by itself, as one of Diff.
func wrongForm(x api.Edit) string {
	switch {
	case x.Kind == api.EditPut && x.Many != 0, x.Kind == api.EditTake && x.Text != "":
		return "has what its kind does not name"
	case x.Kind == api.EditPut && x.Text == "", x.Kind == api.EditTake && x.Many <= 0:
		return "is of no signs"
	case len(x.Text) > api.MaxRun:
		return "puts too many"
	case x.Kind != api.EditPut && x.Kind != api.EditTake:
		return "is of no kind"
	}
	return ""
}

// wrongWay: what is wrong with Diff's answer of two texts.
func wrongWay(a, b string) string {
	l, e := diff.Diff(a, b)
	if e != api.OK {
		return fmt.Sprint("an error: ", e)
	}
	now, signs := a, 0
	for i, x := range l {
		if why := wrongForm(x); why != "" {
			return fmt.Sprint("edit ", i, " ", why, ": ", x)
		}
		if now, e = edit.Plain(now, x); e != api.OK {
			return fmt.Sprint("edit ", i, " can't be played: ", e)
		}
		signs += x.Many + len(x.Text)
	}
	if now != b {
		return fmt.Sprintf("it leads to %q", now)
	}
	if want := fewest(a, b); signs != want {
		return fmt.Sprint(signs, " signs, ", want, " would do")
	}
	if played, e := diff.Play(a, l); e != api.OK || played != b {
		return fmt.Sprintf("Play leads to %q, %d", played, e)
	}
	return ""
}

func TestG1Fewest(t *testing.T) {
	for _, c := range []struct {
		a, b string
		want int
	}{
		{"", "", 0},
		{"", "a", 1},
		{"a", "", 1},
		{"a", "b", 2},
		{"hello", "yellow", 3},
		{"hello", "help", 3},
		{"hello hello", "hello", 6},
		{"hello", "hello hello", 6},
		{"the cat", "the big cat", 4},
		{"abcabcabc", "cbacba", 7},
		{"ab", "ba", 2},
		{" ~", "~ ", 2},
		{"", xs(300), 300},
		{xs(300), "", 300},
		{xs(300), ys(300), 600},
		{xs(300), strings.Repeat("xy", 150), 300},
		{strings.Repeat("xy", 150), strings.Repeat("yx", 150), 2},
	} {
		l, e := diff.Diff(c.a, c.b)
		signs := 0
		for _, x := range l {
			signs += x.Many + len(x.Text)
		}
		if why := wrongWay(c.a, c.b); e != api.OK || signs != c.want || why != "" {
			t.Errorf("%q to %q: %d signs, %d; %s", c.a, c.b, signs, e, why)
		}
	}
}

// allTexts of some signs, up to so many.
func allTexts(signs string, most int) []string {
	out := []string{""}
	for from := 0; len(out[len(out)-1]) < most; {
		to := len(out)
		for _, s := range out[from:to] {
			for i := range len(signs) {
				out = append(out, s+signs[i:i+1])
			}
		}
		from = to
	}
	return out
}

func TestG1AllShortTexts(t *testing.T) {
	for _, all := range [][]string{allTexts("ab", 7), allTexts("abc", 4), allTexts(" ~cd", 3)} {
		for _, a := range all {
			for _, b := range all {
				if why := wrongWay(a, b); why != "" {
					t.Fatalf("%q to %q: %s", a, b, why)
				}
			}
		}
	}
}

func TestG1LongTexts(t *testing.T) {
	draw := rand.New(rand.NewSource(7))
	text := func(signs int) string {
		out := make([]byte, draw.Intn(api.MaxText+1))
		for i := range out {
			out[i] = byte(32 + draw.Intn(signs))
		}
		return string(out)
	}
	for i := range 300 {
		signs := []int{1, 2, 4, 20, 95}[i%5]
		a, b := text(signs), text(signs)
		if why := wrongWay(a, b); why != "" {
			t.Fatalf("%q to %q: %s", a, b, why)
		}
	}
}

// Two full texts with much in common: one that puts ahead of taking would be too long on the way.
func TestG1FullTexts(t *testing.T) {
	for _, n := range []int{1, 60, 61, 100, 150, 299, 300} {
		common := strings.Repeat("c", 300-n)
		for _, c := range [][2]string{
			{common + xs(n), ys(n) + common},
			{xs(n) + common, common + ys(n)},
			{xs(n) + common, ys(n) + common},
			{xs(n/2) + common + xs(n-n/2), common + ys(n)},
			{xs(n/2) + common + xs(n-n/2), ys(n) + common},
		} {
			for _, way := range [][2]string{c, {c[1], c[0]}} {
				if why := wrongWay(way[0], way[1]); why != "" {
					t.Errorf("%q to %q: %s", way[0], way[1], why)
				}
			}
		}
	}
}

// Up to MaxRun signs that come at one place are put at once, more are not.
func TestG1LongPuts(t *testing.T) {
	for signs, edits := range map[int]int{1: 1, 59: 1, 60: 1, 61: 2, 120: 2, 121: 3, 298: 5} {
		for _, c := range [][2]string{{"", xs(signs)}, {"ab", "a" + xs(signs) + "b"}, {"ab", xs(signs) + "ab"}, {"ab", "ab" + xs(signs)}} {
			l, e := diff.Diff(c[0], c[1])
			if why := wrongWay(c[0], c[1]); e != api.OK || len(l) != edits || why != "" {
				t.Errorf("%d signs: %d edits, %d; %s", signs, len(l), e, why)
			}
		}
	}
}

func TestG1DiffErrors(t *testing.T) {
	for name, c := range map[string]struct {
		a, b string
		want api.Errno
	}{
		"a too long":                   {xs(301), "", api.ErrMany},
		"b too long":                   {"", xs(301), api.ErrMany},
		"both too long, the same":      {xs(301), xs(301), api.ErrMany},
		"very long":                    {xs(1 << 20), ys(1 << 20), api.ErrMany},
		"sign 31 of a":                 {"a\x1f", "a", api.ErrRange},
		"sign 127 of a":                {"\x7fa", "a", api.ErrRange},
		"sign 31 of b":                 {"a", "\x1fa", api.ErrRange},
		"sign 127 of b":                {"a", "a\x7f", api.ErrRange},
		"sign 0":                       {"a", "a\x00a", api.ErrRange},
		"signs above all":              {"é", "a", api.ErrRange},
		"the greatest byte":            {"a", "\xff", api.ErrRange},
		"wrong signs, the same":        {"\n", "\n", api.ErrRange},
		"a wrong sign at the very end": {xs(299) + "\n", "", api.ErrRange},
		"many of a ahead of range":     {xs(300) + "\n", "\n", api.ErrMany},
		"many of b ahead of range":     {"\n", xs(300) + "\n", api.ErrMany},
	} {
		if l, e := diff.Diff(c.a, c.b); e != c.want || len(l) != 0 {
			t.Errorf("%s: %d edits, %d", name, len(l), e)
		}
	}
}

func TestG2Same(t *testing.T) {
	for _, s := range append(allTexts("ab", 5), " ~", "hello hello", xs(300), strings.Repeat("xy", 150)) {
		if l, e := diff.Diff(s, s); e != api.OK || len(l) != 0 {
			t.Errorf("%q: %v, %d", s, l, e)
		}
	}
}

func TestP2NewMemory(t *testing.T) {
	first, _ := diff.Diff("hello hello", "yellow")
	was := fmt.Sprint(first)
	second, _ := diff.Diff("hello hello", "yellow")
	for i := range second[:cap(second)] {
		second[:cap(second)][i] = put(7, "spoilt")
	}
	third, _ := diff.Diff("hello hello", "yellow")
	if fmt.Sprint(first) != was || fmt.Sprint(third) != was {
		t.Errorf("%v, then %v; it was %s", first, third, was)
	}
}

func TestP3SameEachTime(t *testing.T) {
	ways := func() string {
		out := ""
		for _, a := range allTexts("abc", 3) {
			for _, b := range allTexts("abc", 3) {
				l, e := diff.Diff(a, b)
				out += fmt.Sprint(l, e)
			}
		}
		return out
	}
	if first := ways(); ways() != first {
		t.Error("it is not the same each time")
	}
}
