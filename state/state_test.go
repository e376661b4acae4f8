package state_test

import (
	"math"
	"reflect"
	"slices"
	"strings"
	"testing"

	"commonplace/api"
	"commonplace/state"
)

// of: a mark of digits, each with its site, with a clock.
func of(clock int, l ...int) api.Mark {
	out := api.Mark{Clock: clock}
	for i := 0; i+1 < len(l); i += 2 {
		out.Path = append(out.Path, api.Step{Digit: l[i], Site: l[i+1]})
	}
	return out
}

// more: the mark whose last digit and clock are more by so many.
func more(m api.Mark, by int) api.Mark {
	path := slices.Clone(m.Path)
	path[len(path)-1].Digit += by
	return api.Mark{Path: path, Clock: m.Clock + by}
}

// atoms that are Next one of the other, the signs of a text.
func atoms(first api.Mark, text string) []api.Atom {
	var out []api.Atom
	for i := range len(text) {
		out = append(out, api.Atom{Mark: more(first, i), Sign: text[i]})
	}
	return out
}

// marks that are Next one of the other.
func marks(first api.Mark, many int) []api.Mark {
	var out []api.Mark
	for i := range many {
		out = append(out, more(first, i))
	}
	return out
}

func put(m api.Mark, text string) api.Deed {
	return api.Deed{Kind: api.DeedPut, Run: api.Run{Mark: m, Text: text}}
}

func take(m api.Mark, many int) api.Deed {
	return api.Deed{Kind: api.DeedTake, Mark: m, Many: many}
}

func xs(n int) string { return strings.Repeat("x", n) }

func textOf(s api.State) string {
	var out []byte
	for _, a := range s.Atoms {
		out = append(out, a.Sign)
	}
	return string(out)
}

// same: lists without elements are the same, nil or not.
func same(a, b api.State) bool {
	return (len(a.Atoms) == 0 && len(b.Atoms) == 0 || reflect.DeepEqual(a.Atoms, b.Atoms)) &&
		(len(a.Gone) == 0 && len(b.Gone) == 0 || reflect.DeepEqual(a.Gone, b.Gone))
}

func isZero(s api.State) bool { return len(s.Atoms) == 0 && len(s.Gone) == 0 }

// deep: a mark of so many steps.
func deep(steps int) api.Mark {
	return api.Mark{Path: slices.Repeat([]api.Step{{Digit: 1, Site: 1}}, steps), Clock: 1}
}

// hello: a state with a sign gone, and one to go when it comes.
func hello() api.State {
	l := atoms(of(1, 3, 0), "hello")
	return api.State{
		Atoms: slices.Concat(l[:1], atoms(of(1, 4, 0, 100, 1), "XY"), l[2:], atoms(of(1, 9, 2), "z")),
		Gone:  []api.Mark{of(2, 4, 0), of(1, 9, 1)},
	}
}

// full: a state with as many atoms, and as many marks gone, as may be.
func full() api.State {
	var s api.State
	for i := range 5 {
		s.Atoms = append(s.Atoms, atoms(of(1, 10+i, 0, 1, 0), xs(60))...)
	}
	for i := range 10 {
		s.Gone = append(s.Gone, marks(of(1, 20+i, 0, 1, 0), 60)...)
	}
	return s
}

type wrongDeed struct {
	d api.Deed
	e api.Errno
}

// wrongPuts that Deed refuses, and why.
func wrongPuts() map[string]wrongDeed {
	three := of(1, 3, 0)
	with := func(d api.Deed, m api.Mark, many int) api.Deed {
		d.Mark, d.Many = m, many
		return d
	}
	return map[string]wrongDeed{
		"put: nothing":                {api.Deed{Kind: api.DeedPut}, api.ErrForm},
		"put: no signs":               {put(three, ""), api.ErrForm},
		"put: too many signs":         {put(three, xs(61)), api.ErrMany},
		"put: no sign":                {put(three, "a\n"), api.ErrRange},
		"put: a mark of no form":      {put(of(1), "a"), api.ErrForm},
		"put: too many steps":         {put(deep(11), "a"), api.ErrMany},
		"put: clock 0":                {put(of(0, 3, 0), "a"), api.ErrRange},
		"put: digits beyond the last": {put(of(1, 200, 0), "ab"), api.ErrRange},
		"put: clocks beyond the last": {put(of(10000, 3, 0), "ab"), api.ErrRange},
		"put: a mark besides":         {with(put(three, "a"), three, 0), api.ErrForm},
		"put: steps besides":          {with(put(three, "a"), of(0, 3, 0), 0), api.ErrForm},
		"put: a clock besides":        {with(put(three, "a"), of(1), 0), api.ErrForm},
		"put: a clock below 0":        {with(put(three, "a"), of(-1), 0), api.ErrForm},
		"put: many besides":           {with(put(three, "a"), api.Mark{}, 1), api.ErrForm},
		"put: fewer than none":        {with(put(three, "a"), api.Mark{}, -1), api.ErrForm},
		"put: run ahead of form":      {with(put(three, xs(61)), three, 1), api.ErrMany},
		"put: range ahead of form":    {with(put(of(1, 200, 0), "ab"), three, 1), api.ErrRange},
	}
}

// wrongTakes that Deed refuses, and why.
func wrongTakes() map[string]wrongDeed {
	three := of(1, 3, 0)
	with := func(d api.Deed, r api.Run) api.Deed {
		d.Run = r
		return d
	}
	return map[string]wrongDeed{
		"take: nothing":                 {api.Deed{Kind: api.DeedTake}, api.ErrForm},
		"take: no mark":                 {take(api.Mark{}, 1), api.ErrForm},
		"take: too many steps":          {take(deep(11), 1), api.ErrMany},
		"take: digit 0":                 {take(of(1, 0, 0), 1), api.ErrRange},
		"take: a mark besides":          {with(take(three, 1), api.Run{Mark: three}), api.ErrForm},
		"take: steps besides":           {with(take(three, 1), api.Run{Mark: of(0, 3, 0)}), api.ErrForm},
		"take: a clock besides":         {with(take(three, 1), api.Run{Mark: of(1)}), api.ErrForm},
		"take: a text besides":          {with(take(three, 1), api.Run{Text: "a"}), api.ErrForm},
		"take: a run besides":           {with(take(three, 1), api.Run{Mark: three, Text: "a"}), api.ErrForm},
		"take: none":                    {take(three, 0), api.ErrRange},
		"take: fewer than none":         {take(three, -1), api.ErrRange},
		"take: too many":                {take(three, 61), api.ErrRange},
		"take: as many as there may be": {take(three, math.MaxInt), api.ErrRange},
		"take: as few as there may be":  {take(three, math.MinInt), api.ErrRange},
		"take: digits beyond the last":  {take(of(1, 199, 0), 3), api.ErrRange},
		"take: clocks beyond the last":  {take(of(9999, 3, 0), 3), api.ErrRange},
		"take: mark ahead of form":      {with(take(deep(11), 1), api.Run{Text: "a"}), api.ErrMany},
		"take: form ahead of range":     {with(take(three, 0), api.Run{Text: "a"}), api.ErrForm},
		"take: form ahead of digits":    {with(take(of(1, 200, 0), 2), api.Run{Text: "a"}), api.ErrForm},
	}
}

// wrongDeeds of whatever kind.
func wrongDeeds() map[string]wrongDeed {
	out := wrongPuts()
	for name, row := range wrongTakes() {
		out[name] = row
	}
	for name, kind := range map[string]int{"kind 0": 0, "kind 3": 3, "kind -1": -1, "greatest kind": math.MaxInt, "least kind": math.MinInt} {
		d := put(of(1, 3, 0), "a")
		d.Kind = kind
		out[name] = wrongDeed{d, api.ErrKind}
		out[name+", all else wrong"] = wrongDeed{api.Deed{Kind: kind, Mark: deep(11), Many: -1}, api.ErrKind}
	}
	return out
}

func TestD1Deed(t *testing.T) {
	for _, d := range []api.Deed{
		put(of(1, 3, 0), "a"), put(of(1, 3, 0), xs(60)), put(of(1, 141, 4), xs(60)), put(of(9941, 1, 0), xs(60)), put(deep(10), " ~"),
		take(of(1, 3, 0), 1), take(of(1, 3, 0), 60), take(of(1, 141, 4), 60), take(of(9941, 1, 0), 60), take(of(10000, 200, 0), 1), take(deep(10), 2),
		{Kind: api.DeedPut, Run: api.Run{Mark: of(1, 3, 0), Text: "a"}, Mark: api.Mark{Path: []api.Step{}}},
		{Kind: api.DeedTake, Run: api.Run{Mark: api.Mark{Path: []api.Step{}}}, Mark: of(1, 3, 0), Many: 1},
	} {
		if e := state.Deed(d); e != api.OK {
			t.Errorf("Deed of %v is %d", d, e)
		}
	}
	for name, row := range wrongDeeds() {
		if e := state.Deed(row.d); e != row.e {
			t.Errorf("%s: Deed is %d, not %d", name, e, row.e)
		}
	}
}

type wrongState struct {
	s api.State
	e api.Errno
}

// wrongStates that Check refuses, and why.
func wrongStates() map[string]wrongState {
	three, four := of(1, 3, 0), of(2, 4, 0)
	gone := func(l ...api.Mark) api.State { return api.State{Gone: l} }
	tooMany := full()
	tooMany.Gone = append(tooMany.Gone, of(1, 50, 0))
	tooManyAtoms := full()
	tooManyAtoms.Atoms = append(tooManyAtoms.Atoms, atoms(of(1, 50, 0), "x")...)
	return map[string]wrongState{
		"too many atoms":               {tooManyAtoms, api.ErrMany},
		"an atom without a mark":       {api.State{Atoms: make([]api.Atom, 1)}, api.ErrForm},
		"an atom of no sign":           {api.State{Atoms: atoms(three, "\x7f")}, api.ErrRange},
		"atoms not rising":             {api.State{Atoms: append(atoms(four, "a"), atoms(three, "b")...)}, api.ErrState},
		"too many gone":                {tooMany, api.ErrMany},
		"too many gone, all wrong":     {gone(make([]api.Mark, 601)...), api.ErrMany},
		"gone without steps":           {gone(of(1)), api.ErrForm},
		"gone with too many steps":     {gone(deep(11)), api.ErrMany},
		"gone with clock 0":            {gone(of(0, 3, 0)), api.ErrRange},
		"gone not rising":              {gone(four, three), api.ErrState},
		"gone twice":                   {gone(three, three), api.ErrState},
		"gone not rising by clock":     {gone(of(2, 3, 0), three), api.ErrState},
		"gone and there":               {api.State{Atoms: atoms(three, "a"), Gone: []api.Mark{three}}, api.ErrState},
		"the last of all":              {api.State{Atoms: atoms(three, "abcde"), Gone: []api.Mark{of(1, 4, 0), of(5, 7, 0)}}, api.ErrState},
		"atoms ahead of too many gone": {api.State{Atoms: atoms(three, "\x1f"), Gone: make([]api.Mark, 601)}, api.ErrRange},
		"atoms ahead of marks gone":    {api.State{Atoms: append(atoms(four, "a"), atoms(three, "b")...), Gone: make([]api.Mark, 1)}, api.ErrState},
		"form ahead of order":          {gone(three, of(1)), api.ErrForm},
		"range ahead of order":         {gone(three, of(1, 2, 0, 0, 0)), api.ErrRange},
		"the first mark tells: there":  {api.State{Atoms: atoms(three, "a"), Gone: []api.Mark{three, of(1)}}, api.ErrState},
		"the first mark tells: twice":  {gone(three, three, deep(11)), api.ErrState},
		"the first mark tells: form":   {gone(of(1), four, three), api.ErrForm},
	}
}

func TestD1Check(t *testing.T) {
	for _, s := range []api.State{
		{}, {Atoms: []api.Atom{}, Gone: []api.Mark{}}, hello(), full(),
		{Gone: []api.Mark{of(1, 3, 0), of(2, 3, 0), of(1, 3, 0, 1, 0)}},
		{Atoms: atoms(of(1, 3, 0), "a"), Gone: []api.Mark{of(2, 3, 0)}},
	} {
		if e := state.Check(s); e != api.OK {
			t.Errorf("Check of %v is %d", s, e)
		}
	}
	for name, row := range wrongStates() {
		if e := state.Check(row.s); e != row.e {
			t.Errorf("%s: Check is %d, not %d", name, e, row.e)
		}
	}
}
