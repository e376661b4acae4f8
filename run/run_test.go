package run_test

import (
	"fmt"
	"math"
	"math/rand"
	"reflect"
	"slices"
	"strings"
	"testing"

	"commonplace/api"
	"commonplace/atom"
	"commonplace/mark"
	"commonplace/run"
)

// of: a mark of digits, each with its site, with a clock.
func of(clock int, l ...int) api.Mark {
	out := api.Mark{Clock: clock}
	for i := 0; i+1 < len(l); i += 2 {
		out.Path = append(out.Path, api.Step{Digit: l[i], Site: l[i+1]})
	}
	return out
}

// row of atoms, the signs of a text, that are Next one of the other.
func row(first api.Mark, text string) []api.Atom {
	var out []api.Atom
	for i := range len(text) {
		path := slices.Clone(first.Path)
		path[len(path)-1].Digit += i
		out = append(out, api.Atom{Mark: api.Mark{Path: path, Clock: first.Clock + i}, Sign: text[i]})
	}
	return out
}

func xs(n int) string { return strings.Repeat("x", n) }

// same: lists without elements are the same, nil or not.
func same[T any](a, b []T) bool { return len(a) == 0 && len(b) == 0 || reflect.DeepEqual(a, b) }

// wrong: runs that Check refuses, and why.
func wrong() map[string]struct {
	r api.Run
	e api.Errno
} {
	type row = struct {
		r api.Run
		e api.Errno
	}
	deep := api.Mark{Path: make([]api.Step, 11), Clock: 1}
	three := of(1, 3, 0)
	return map[string]row{
		"nothing":                          {api.Run{}, api.ErrForm},
		"no mark":                          {api.Run{Text: "a"}, api.ErrForm},
		"a mark with too many steps":       {api.Run{Mark: deep}, api.ErrMany},
		"a mark with digit 0":              {api.Run{Mark: of(1, 0, 0), Text: "a"}, api.ErrRange},
		"a mark with clock 0":              {api.Run{Mark: of(0, 3, 0), Text: "a"}, api.ErrRange},
		"a mark of no site":                {api.Run{Mark: of(1, 3, 5), Text: "a"}, api.ErrRange},
		"no signs":                         {api.Run{Mark: three}, api.ErrForm},
		"too many signs":                   {api.Run{Mark: three, Text: xs(61)}, api.ErrMany},
		"very many signs":                  {api.Run{Mark: three, Text: xs(1 << 20)}, api.ErrMany},
		"sign 31":                          {api.Run{Mark: three, Text: "a\x1f"}, api.ErrRange},
		"sign 127":                         {api.Run{Mark: three, Text: "\x7fa"}, api.ErrRange},
		"sign 0":                           {api.Run{Mark: three, Text: "a\x00a"}, api.ErrRange},
		"signs above all":                  {api.Run{Mark: three, Text: "é"}, api.ErrRange},
		"digits beyond the last":           {api.Run{Mark: of(1, 199, 0), Text: "abc"}, api.ErrRange},
		"sixty digits beyond the last":     {api.Run{Mark: of(1, 142, 0), Text: xs(60)}, api.ErrRange},
		"clocks beyond the last":           {api.Run{Mark: of(9999, 3, 0), Text: "abc"}, api.ErrRange},
		"numbers as great as there are":    {api.Run{Mark: of(math.MaxInt, math.MaxInt, math.MaxInt), Text: "ab"}, api.ErrRange},
		"mark ahead of no signs":           {api.Run{Mark: of(0, 3, 0)}, api.ErrRange},
		"mark ahead of many":               {api.Run{Mark: of(1), Text: xs(61)}, api.ErrForm},
		"many ahead of signs":              {api.Run{Mark: three, Text: strings.Repeat("\x7f", 61)}, api.ErrMany},
		"many ahead of digits":             {api.Run{Mark: of(1, 200, 0), Text: xs(61)}, api.ErrMany},
		"many ahead of clocks beyond them": {api.Run{Mark: of(10000, 3, 0), Text: xs(62)}, api.ErrMany},
	}
}

// right: runs, all as they must be.
func right() []api.Run {
	return []api.Run{
		{Mark: of(1, 3, 0), Text: "a"},
		{Mark: of(1, 3, 0), Text: "hi"},
		{Mark: of(1, 3, 0), Text: " ~"},
		{Mark: of(1, 3, 0), Text: xs(60)},
		{Mark: of(3, 5, 1, 0, 4, 7, 2), Text: "a b"},
		{Mark: of(1, 200, 4), Text: "a"},
		{Mark: of(1, 199, 0), Text: "ab"},
		{Mark: of(1, 141, 0), Text: xs(60)},
		{Mark: of(10000, 9, 0), Text: "a"},
		{Mark: of(9999, 9, 0), Text: "ab"},
		{Mark: of(9941, 9, 0), Text: xs(60)},
		{Mark: of(1, 1, 0, 1, 0, 1, 0, 1, 0, 1, 0, 1, 0, 1, 0, 1, 0, 1, 0, 1, 0), Text: "ten"},
	}
}

func TestC1Check(t *testing.T) {
	for _, r := range right() {
		if e := run.Check(r); e != api.OK {
			t.Errorf("Check of %v is %d", r, e)
		}
	}
	for name, row := range wrong() {
		if e := run.Check(row.r); e != row.e {
			t.Errorf("%s: Check is %d, not %d", name, e, row.e)
		}
	}
}

func TestC1Atoms(t *testing.T) {
	for _, r := range right() {
		got, e := run.Atoms(r)
		if e != api.OK || !same(got, row(r.Mark, r.Text)) || atom.Check(got) != api.OK {
			t.Errorf("Atoms of %v: %v, %d", r, got, e)
		}
	}
	for name, row := range wrong() {
		if got, e := run.Atoms(row.r); len(got) != 0 || e != row.e {
			t.Errorf("%s: Atoms is %v, %d", name, got, e)
		}
	}
}

func TestC1Runs(t *testing.T) {
	three, within := of(1, 3, 0), of(1, 4, 0, 100, 1)
	for name, c := range map[string]struct {
		l    []api.Atom
		want []api.Run
	}{
		"nothing":  {nil, nil},
		"no atoms": {[]api.Atom{}, nil},
		"one atom": {row(three, "a"), []api.Run{{Mark: three, Text: "a"}}},
		"one run":  {row(three, "hello"), []api.Run{{Mark: three, Text: "hello"}}},
		"one within the other": {slices.Concat(row(three, "he"), row(within, "XY"), row(of(3, 5, 0), "llo")),
			[]api.Run{{Mark: three, Text: "he"}, {Mark: within, Text: "XY"}, {Mark: of(3, 5, 0), Text: "llo"}}},
		"a digit is left out":      {slices.Concat(row(three, "a"), row(of(2, 5, 0), "b")), []api.Run{{Mark: three, Text: "a"}, {Mark: of(2, 5, 0), Text: "b"}}},
		"a clock is left out":      {slices.Concat(row(three, "a"), row(of(3, 4, 0), "b")), []api.Run{{Mark: three, Text: "a"}, {Mark: of(3, 4, 0), Text: "b"}}},
		"the clock stays":          {slices.Concat(row(three, "a"), row(of(1, 4, 0), "b")), []api.Run{{Mark: three, Text: "a"}, {Mark: of(1, 4, 0), Text: "b"}}},
		"the digit stays":          {slices.Concat(row(three, "a"), row(of(2, 3, 0), "b")), []api.Run{{Mark: three, Text: "a"}, {Mark: of(2, 3, 0), Text: "b"}}},
		"another site":             {slices.Concat(row(three, "a"), row(of(2, 4, 1), "b")), []api.Run{{Mark: three, Text: "a"}, {Mark: of(2, 4, 1), Text: "b"}}},
		"another path":             {slices.Concat(row(of(1, 1, 0, 3, 0), "a"), row(of(2, 2, 0, 4, 0), "b")), []api.Run{{Mark: of(1, 1, 0, 3, 0), Text: "a"}, {Mark: of(2, 2, 0, 4, 0), Text: "b"}}},
		"one step more":            {slices.Concat(row(three, "a"), row(of(2, 4, 0, 1, 0), "b")), []api.Run{{Mark: three, Text: "a"}, {Mark: of(2, 4, 0, 1, 0), Text: "b"}}},
		"the last digit and more":  {slices.Concat(row(of(1, 200, 0), "a"), row(of(2, 200, 0), "b")), []api.Run{{Mark: of(1, 200, 0), Text: "a"}, {Mark: of(2, 200, 0), Text: "b"}}},
		"up to the last digit":     {row(of(1, 199, 0), "ab"), []api.Run{{Mark: of(1, 199, 0), Text: "ab"}}},
		"up to the last clock":     {row(of(9999, 3, 0), "ab"), []api.Run{{Mark: of(9999, 3, 0), Text: "ab"}}},
		"as many as a run has":     {row(three, xs(60)), []api.Run{{Mark: three, Text: xs(60)}}},
		"one more than a run has":  {row(three, xs(61)), []api.Run{{Mark: three, Text: xs(60)}, {Mark: of(61, 63, 0), Text: "x"}}},
		"as many as two runs have": {row(three, xs(120)), []api.Run{{Mark: three, Text: xs(60)}, {Mark: of(61, 63, 0), Text: xs(60)}}},
		"more than two runs have":  {row(three, xs(121)), []api.Run{{Mark: three, Text: xs(60)}, {Mark: of(61, 63, 0), Text: xs(60)}, {Mark: of(121, 123, 0), Text: "x"}}},
	} {
		if got, e := run.Runs(c.l); e != api.OK || !same(got, c.want) {
			t.Errorf("%s: Runs is %v, %d", name, got, e)
		}
	}
}

func TestC1RunsErrors(t *testing.T) {
	for name, c := range map[string]struct {
		l []api.Atom
		e api.Errno
	}{
		"too many":       {slices.Concat(row(of(1, 1, 0), xs(200)), row(of(1, 1, 1, 1, 1), xs(101))), api.ErrMany},
		"no mark":        {make([]api.Atom, 1), api.ErrForm},
		"digit 0":        {row(of(1, 0, 0), "a"), api.ErrRange},
		"sign 127":       {row(of(1, 1, 0), "a\x7f"), api.ErrRange},
		"not rising":     {slices.Concat(row(of(2, 4, 0), "b"), row(of(1, 3, 0), "a")), api.ErrState},
		"one mark twice": {slices.Concat(row(of(1, 3, 0), "a"), row(of(1, 3, 0), "b")), api.ErrState},
	} {
		if got, e := run.Runs(c.l); e != c.e || len(got) != 0 {
			t.Errorf("%s: Runs is %v, %d", name, got, e)
		}
	}
}

// drawn atoms: runs of few marks, laid over each other, so that they often break off and go on.
func drawn(r *rand.Rand) []api.Atom {
	var out []api.Atom
	for range 1 + r.Intn(8) {
		first := of(1+r.Intn(3), 1+r.Intn(9), r.Intn(2))
		if r.Intn(2) == 0 {
			first.Path = append(first.Path, api.Step{Digit: 1 + r.Intn(9), Site: 1})
		}
		l := row(first, xs(1+r.Intn(70)))
		if more, e := atom.Put(out, l); e == api.OK {
			out = more
		}
	}
	kept := out[:0]
	for _, a := range out {
		if r.Intn(20) > 0 {
			kept = append(kept, a)
		}
	}
	return kept
}

func TestC2AtomsAreWhatTheyWere(t *testing.T) {
	r := rand.New(rand.NewSource(1))
	for range 500 {
		l := drawn(r)
		runs, e := run.Runs(l)
		if e != api.OK {
			t.Fatalf("Runs of %v: %d", l, e)
		}
		var back []api.Atom
		for i, x := range runs {
			atoms, e := run.Atoms(x)
			if e != api.OK {
				t.Fatalf("Atoms of %v: %d", x, e)
			}
			back = append(back, atoms...)
			if i == 0 || len(runs[i-1].Text) == api.MaxRun {
				continue
			}
			if next, e := mark.Next(runs[i-1].Mark, len(runs[i-1].Text)); e == api.OK && mark.Order(next, x.Mark) == 0 {
				t.Fatalf("%v and %v could be one run", runs[i-1], x)
			}
		}
		if !same(back, l) {
			t.Fatalf("%v came back as %v", l, back)
		}
	}
}

func TestC2RunsAreWhatTheyWere(t *testing.T) {
	for _, r := range right() {
		atoms, _ := run.Atoms(r)
		if got, e := run.Runs(atoms); e != api.OK || !same(got, []api.Run{r}) {
			t.Errorf("%v came back as %v, %d", r, got, e)
		}
	}
}

// roomy: the same mark, with spare room behind its path.
func roomy(m api.Mark) api.Mark {
	return api.Mark{Path: append(make([]api.Step, 0, len(m.Path)+2), m.Path...), Clock: m.Clock}
}

func whole(m api.Mark) string { return fmt.Sprint(len(m.Path), m.Path[:cap(m.Path)], m.Clock) }

// spoil a mark of an answer, and the room behind its path.
func spoil(m *api.Mark) {
	for i := range m.Path {
		m.Path[i] = api.Step{Digit: 99, Site: 9}
	}
	_ = append(m.Path, api.Step{Digit: 98, Site: 8})
	m.Clock = -1
}

func TestP2AtomsAreNewMemory(t *testing.T) {
	r := api.Run{Mark: roomy(of(1, 3, 0, 4, 0)), Text: "hello"}
	was := whole(r.Mark)
	l, _ := run.Atoms(r)
	for i := range l {
		left := fmt.Sprint(l[i+1:])
		spoil(&l[i].Mark)
		if fmt.Sprint(l[i+1:]) != left {
			t.Fatal("two atoms share memory")
		}
	}
	if whole(r.Mark) != was {
		t.Error("what was handed in is not as it was")
	}
}

func TestP2RunsAreNewMemory(t *testing.T) {
	l := make([]api.Atom, 0, 20)
	for _, a := range slices.Concat(row(of(1, 3, 0), "ab"), row(of(1, 9, 0), "c"), row(of(1, 9, 0, 1, 1), "de")) {
		l = append(l, api.Atom{Mark: roomy(a.Mark), Sign: a.Sign})
	}
	all := func() string {
		s := fmt.Sprint(l[:cap(l)])
		for _, a := range l {
			s += whole(a.Mark)
		}
		return s
	}
	was := all()
	runs, _ := run.Runs(l)
	for i := range runs {
		left := fmt.Sprint(runs[i+1:])
		spoil(&runs[i].Mark)
		if fmt.Sprint(runs[i+1:]) != left {
			t.Fatal("two runs share memory")
		}
	}
	if all() != was {
		t.Error("what was handed in is not as it was")
	}
}

func TestP3SameEachTime(t *testing.T) {
	l := slices.Concat(row(of(1, 3, 0), "ab"), row(of(1, 9, 0), "c"))
	first, _ := run.Runs(l)
	run.Atoms(first[0])
	if second, _ := run.Runs(l); !same(first, second) {
		t.Errorf("%v, then %v", first, second)
	}
}

func TestP4ManyAtoms(t *testing.T) {
	if got, e := run.Runs(make([]api.Atom, 1<<20)); e != api.ErrMany || len(got) != 0 {
		t.Errorf("Runs of very many atoms: %d, %d", len(got), e)
	}
	if e := run.Check(api.Run{Mark: api.Mark{Path: make([]api.Step, 1<<20), Clock: 1}, Text: "a"}); e != api.ErrMany {
		t.Errorf("Check of a run whose mark has very many steps: %d", e)
	}
}
