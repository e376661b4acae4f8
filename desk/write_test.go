package desk_test

import (
	"fmt"
	"math"
	"math/rand"
	"slices"
	"strings"
	"testing"

	"commonplace/api"
	"commonplace/desk"
	"commonplace/diff"
	"commonplace/edit"
	"commonplace/state"
	"commonplace/wire"
)

// checkNote that a desk has told, in one note, how it came to another text; tells the note.
func checkNote(t *testing.T, was, is api.Desk, text string) api.Note {
	t.Helper()
	if len(is.Out) != len(was.Out)+1 || !same(is.Out[:len(was.Out)], was.Out) {
		t.Fatalf("Out is %+v", is.Out)
	}
	n := is.Out[len(was.Out)]
	if n.Site != was.Site || n.Number != was.Seen[was.Site]+1 || !slices.Equal(n.Needs, was.Seen) || wire.Check(n) != api.OK {
		t.Fatalf("the note is %+v", n)
	}
	want := was
	want.Seen = slices.Clone(was.Seen)
	want.Seen[was.Site]++
	want.Out = is.Out
	want.Clock += checkPuts(t, was, n)
	var e api.Errno
	if want.State, e = state.All(was.State, n.Deeds); e != api.OK || !same(is, want) {
		t.Fatalf("the desk is\n%+v\nand must be\n%+v (%d)", is, want, e)
	}
	if got := textOf(is); got != text {
		t.Fatalf("the text is %q and must be %q", got, text)
	}
	if e := desk.Check(is); e != api.OK {
		t.Fatalf("Check: %d", e)
	}
	return n
}

// checkPuts that what a note puts has the desk's site, and its clocks, one behind the other; tells how many signs there are.
func checkPuts(t *testing.T, d api.Desk, n api.Note) int {
	t.Helper()
	signs := 0
	for _, x := range n.Deeds {
		if x.Kind != api.DeedPut {
			continue
		}
		m := x.Run.Mark
		if m.Path[len(m.Path)-1].Site != d.Site || m.Clock != d.Clock+signs {
			t.Fatalf("%v is put when the clock is %d", x, d.Clock+signs)
		}
		signs += len(x.Run.Text)
	}
	return signs
}

// signsOf a note, put and taken.
func signsOf(n api.Note) int {
	out := 0
	for _, x := range n.Deeds {
		out += len(x.Run.Text) + x.Many
	}
	return out
}

// fewest signs that must be put and taken to come from one text to another.
func fewest(from, to string) int {
	l, _ := diff.Diff(from, to)
	out := 0
	for _, x := range l {
		out += len(x.Text) + x.Many
	}
	return out
}

func onlyKind(n api.Note, kind int) bool {
	return !slices.ContainsFunc(n.Deeds, func(d api.Deed) bool { return d.Kind != kind })
}

func checkType(t *testing.T, d api.Desk, at int, text string) api.Desk {
	t.Helper()
	got, e := desk.Type(d, at, text)
	if e != api.OK {
		t.Fatalf("%q at %d of %q: %d", text, at, textOf(d), e)
	}
	old := textOf(d)
	n := checkNote(t, d, got, old[:at]+text+old[at:])
	if !onlyKind(n, api.DeedPut) || signsOf(n) != len(text) {
		t.Fatalf("%q at %d of %q: %+v", text, at, old, n)
	}
	return got
}

func checkCut(t *testing.T, d api.Desk, at, many int) api.Desk {
	t.Helper()
	got, e := desk.Cut(d, at, many)
	if e != api.OK {
		t.Fatalf("%d from %d on of %q: %d", many, at, textOf(d), e)
	}
	if many == 0 {
		if !same(got, d) {
			t.Fatalf("none from %d on: %+v", at, got)
		}
		return got
	}
	old := textOf(d)
	n := checkNote(t, d, got, old[:at]+old[at+many:])
	if want, _ := edit.Take(d.State, at, many); !same(n.Deeds, want) {
		t.Fatalf("%d from %d on of %q: %+v", many, at, old, n)
	}
	return got
}

func checkWrite(t *testing.T, d api.Desk, text string) api.Desk {
	t.Helper()
	got, e := desk.Write(d, text)
	if e != api.OK {
		t.Fatalf("%q from %q: %d", text, textOf(d), e)
	}
	old := textOf(d)
	if text == old {
		if !same(got, d) {
			t.Fatalf("%q from itself: %+v", text, got)
		}
		return got
	}
	if n := checkNote(t, d, got, text); signsOf(n) != fewest(old, text) {
		t.Fatalf("%q from %q: %+v", text, old, n)
	}
	return got
}

func TestJ2Type(t *testing.T) {
	for _, d := range []api.Desk{right(), newDesk(t, 0), newDesk(t, 4), withText(t, 2, apart("hello"))} {
		for at := range len(d.State.Atoms) + 1 {
			for _, text := range []string{"a", "new", " ~", xs(20), xs(21), xs(60)} {
				x := checkType(t, d, at, text)
				checkType(t, x, at+len(text)/2, "in")
				checkType(t, x, len(x.State.Atoms), "!")
			}
		}
	}
}

func TestJ2Cut(t *testing.T) {
	for _, d := range []api.Desk{right(), newDesk(t, 3), withText(t, 2, apart("hello")), withText(t, 2, atoms(of(1, 1, 0), xs(70)))} {
		for at := range len(d.State.Atoms) + 1 {
			for many := range len(d.State.Atoms) - at + 1 {
				checkCut(t, d, at, many)
			}
		}
	}
	d := checkType(t, right(), 2, "abc")
	checkCut(t, checkCut(t, d, 1, 3), 0, 4)
}

func TestJ2Write(t *testing.T) {
	for _, d := range []api.Desk{right(), newDesk(t, 0), withText(t, 2, apart("hello")), withText(t, 0, slices.Concat(atoms(of(1, 1, 0), "he"), atoms(of(1, 5, 1), "llo")))} {
		d.Clock += 20
		for _, text := range []string{"", "a", "hiyo!", "hello", "hi you!", "yohi!", "!oyih", "hyi", "oh", "h so!", "hello world", textOf(d), textOf(d) + "x", "x" + textOf(d), strings.ToUpper(textOf(d)), xs(60)} {
			x := checkWrite(t, d, text)
			checkWrite(t, checkWrite(t, x, "in between"), textOf(d))
		}
	}
	// A long text is put in pieces.
	if d, e := desk.Write(newDesk(t, 0), xs(300)); e == api.OK {
		checkNote(t, newDesk(t, 0), d, xs(300))
	} else if e != api.ErrMany {
		t.Errorf("300 signs: %d", e)
	}
}

// At one desk, all day long, with notes that wait all the time.
func TestJ2AllDayLong(t *testing.T) {
	draw := rand.New(rand.NewSource(2))
	for range 20 {
		d := right()
		for range 40 {
			size := len(d.State.Atoms)
			at := draw.Intn(size + 1)
			switch draw.Intn(3) {
			case 0:
				d = checkType(t, d, at, drawText(draw, 1+draw.Intn(3)))
			case 1:
				d = checkCut(t, d, at, draw.Intn(min(size-at, 3)+1))
			case 2:
				d = checkWrite(t, d, drawChange(draw, textOf(d), 8))
			}
		}
	}
}

// drawText of few letters, so that the same ones come again and again.
func drawText(draw *rand.Rand, many int) string {
	out := make([]byte, many)
	for i := range out {
		out[i] = "abc"[draw.Intn(3)]
	}
	return string(out)
}

// drawChange: the text, with so many signs put and taken at most.
func drawChange(draw *rand.Rand, text string, most int) string {
	for range draw.Intn(most + 1) {
		at := draw.Intn(len(text) + 1)
		if at < len(text) && draw.Intn(2) == 0 {
			text = text[:at] + text[at+1:]
		} else {
			text = text[:at] + drawText(draw, 1) + text[at:]
		}
	}
	return text
}

// What waits is not touched by the desk's own notes, and comes when it may.
func TestJ2WaitsStay(t *testing.T) {
	d := checkType(t, right(), 0, "oh, ")
	d, e := desk.Receive(d, note(3, 2, needs(0, 0, 0, 1, 0), put(of(2, 91, 3), "?")))
	if e != api.OK || len(d.Waits) != 2 || !slices.Equal(d.Seen, needs(2, 4, 1, 2, 0)) || textOf(d) != "oh, hiyocd!?" {
		t.Errorf("%+v, %d", d, e)
	}
}

type call struct {
	name string
	do   func(d api.Desk) (api.Desk, api.Errno)
}

func typing(at int, text string) call {
	return call{fmt.Sprintf("type %.9q (%d) at %d", text, len(text), at), func(d api.Desk) (api.Desk, api.Errno) { return desk.Type(d, at, text) }}
}

func cutting(at, many int) call {
	return call{fmt.Sprintf("cut %d at %d", many, at), func(d api.Desk) (api.Desk, api.Errno) { return desk.Cut(d, at, many) }}
}

func writing(text string) call {
	return call{fmt.Sprintf("write %.9q (%d)", text, len(text)), func(d api.Desk) (api.Desk, api.Errno) { return desk.Write(d, text) }}
}

// fails: each of some calls answers an error, and no desk.
func fails(t *testing.T, name string, d api.Desk, want api.Errno, calls ...call) {
	t.Helper()
	for _, c := range calls {
		if got, e := c.do(d); e != want || !isZero(got) {
			t.Errorf("%s: %s: %+v, %d", name, c.name, got, e)
		}
	}
}

func TestJ2ErrorsOfPutAndTake(t *testing.T) {
	d := right()
	fails(t, "place", d, api.ErrRange, typing(-1, "a"), typing(6, "a"), typing(math.MaxInt, "a"), typing(math.MinInt, "a"), typing(6, ""), typing(-1, "\n"), typing(6, xs(61)))
	fails(t, "signs", d, api.ErrRange, typing(0, "\n"), typing(0, "a\x7f"), typing(5, "\xc3\xa9"), writing("\n"), writing("hiyo!\x7f"), writing("\xc3\xa9"))
	fails(t, "none", d, api.ErrForm, typing(0, ""), typing(5, ""))
	fails(t, "many", d, api.ErrMany, typing(0, xs(61)), typing(5, xs(60)+"\n"), writing(xs(301)), writing(strings.Repeat("\n", 301)), writing(xs(1<<20)), typing(0, xs(1<<20)))
	fails(t, "piece", d, api.ErrRange, cutting(-1, 1), cutting(-1, 0), cutting(6, 0), cutting(5, 1), cutting(0, 6), cutting(0, -1), cutting(2, math.MaxInt), cutting(math.MaxInt, 2), cutting(math.MinInt, 2))
	full := withText(t, 1, apart(xs(300)))
	fails(t, "full", full, api.ErrMany, typing(0, "a"), typing(300, "\n"), writing(xs(301)))
	fails(t, "full, place", full, api.ErrRange, typing(301, "a"))
	twins := withText(t, 1, []api.Atom{{Mark: of(1, 3, 0), Sign: 'a'}, {Mark: of(2, 3, 0), Sign: 'b'}})
	fails(t, "no room", twins, api.ErrState, typing(1, "x"), writing("axb"))
	nine := withText(t, 1, []api.Atom{{Mark: deep(9, 0), Sign: 'a'}})
	fails(t, "too deep", nine, api.ErrMany, typing(0, "x"), typing(1, "x"))
}

func TestJ2ErrorsOfClock(t *testing.T) {
	d := right()
	d.Clock = 9999
	checkType(t, d, 1, "ab")
	checkWrite(t, d, "Hiyo?")
	checkWrite(t, d, "ab")
	fails(t, "three more", d, api.ErrMany, typing(0, "abc"), typing(9, "abc"), typing(0, "ab\n"), typing(-1, xs(61)), writing("Hi?yo?"), writing("abc"), writing("hiyo!abc"))
	fails(t, "two", d, api.ErrRange, typing(9, "ab"), typing(0, "a\n"))
	fails(t, "of Diff first", d, api.ErrRange, writing("abc\n"), writing("\n\n\n"))
	d.Clock = 10001
	fails(t, "one more", d, api.ErrMany, typing(0, "a"), typing(9, "\n"), writing("hiyo!!"), writing("a"))
	fails(t, "none", d, api.ErrForm, typing(0, ""))
	fails(t, "none, at no place", d, api.ErrRange, typing(9, ""))
	fails(t, "of Diff first", d, api.ErrRange, writing("a\n"))
	checkCut(t, d, 0, 2)
	checkWrite(t, d, "hi!")
	checkWrite(t, d, "hiyo!")
}

func TestJ2ErrorsOfNumber(t *testing.T) {
	d := right()
	d.Waits, d.Out, d.Seen[1] = nil, nil, 499
	checkWrite(t, d, "hi")
	checkCut(t, d, 0, 1)
	d = checkType(t, d, 0, "a")
	fails(t, "one more", d, api.ErrMany, typing(0, "a"), cutting(0, 1), writing("a"), writing(""))
	fails(t, "others first", d, api.ErrRange, typing(9, "a"), typing(0, "\n"), cutting(0, 9), writing("\n"))
	fails(t, "others first", d, api.ErrForm, typing(0, ""))
	checkCut(t, d, 2, 0)
	checkWrite(t, d, "ahiyo!")
}

func TestJ2ErrorsOfGone(t *testing.T) {
	d := withText(t, 1, apart("abcdefgh"))
	d.State.Gone = gone(597)
	checkCut(t, d, 0, 3)
	checkWrite(t, d, "bdf!gh?")
	fails(t, "one too many", d, api.ErrMany, cutting(0, 4), writing("efgh"), writing("bdfh"), writing("abcd!"))
	d.State.Gone = gone(600)
	fails(t, "any", d, api.ErrMany, cutting(0, 1), writing("abcdefg"))
	fails(t, "no such piece", d, api.ErrRange, cutting(0, 9))
	checkCut(t, d, 8, 0)
	checkType(t, d, 8, "i")
	checkWrite(t, d, "a bcdefgh ")
}

func TestJ2ErrorsOfDeeds(t *testing.T) {
	d := withText(t, 1, apart(strings.Repeat("ab", 21)))
	checkCut(t, d, 1, 20)
	fails(t, "a deed of each", d, api.ErrMany, cutting(1, 21), cutting(0, 42), writing(strings.Repeat("a", 21)), writing(""))
	checkWrite(t, d, strings.Repeat("a", 20)+"ab")
	checkWrite(t, d, strings.Repeat("b", 20)+"ab")
	// As few as may be: of those in one run there is one.
	d = withText(t, 1, atoms(of(1, 1, 0), strings.Repeat("ab", 60)))
	checkCut(t, d, 0, 120)
	if x, e := desk.Cut(d, 3, 117); e != api.OK || len(x.Out[0].Deeds) != 2 {
		t.Errorf("117 of two runs: %+v, %d", x.Out, e)
	}
	fails(t, "21 pieces", d, api.ErrMany, writing(strings.Repeat("a", 21)+strings.Repeat("ab", 39)))
}

// Where no more signs than MaxDeeds must be put and taken, and no mark is too deep, Write always finds a way.
func TestJ2WriteFindsAWay(t *testing.T) {
	draw := rand.New(rand.NewSource(3))
	for range 300 {
		d := withText(t, draw.Intn(api.MaxSites), tight(draw, 20+draw.Intn(40)))
		d.Clock = 1000
		checkWrite(t, d, drawChange(draw, textOf(d), api.MaxDeeds))
	}
	full := withText(t, 2, tight(draw, 300))
	full.Clock = 1000
	old := textOf(full)
	checkWrite(t, full, "0123456789"+old[:290])
	checkWrite(t, full, old[10:]+"0123456789")
	checkWrite(t, full, "~~"+old[5:100]+"~"+old[105:200]+"~~~~~~~"+old[200:300])
}

// tight: so many atoms with marks of six steps or fewer, with hardly any room between one and the next.
func tight(draw *rand.Rand, many int) []api.Atom {
	var out []api.Atom
	for len(out) < many {
		digit := 1 + len(out)/api.MaxSites/6
		for site := range api.MaxSites {
			for steps := 1; steps <= 6; steps++ {
				m := deep(steps, 0)
				m.Path[0].Digit = digit
				m.Path[0].Site = site
				out = append(out, api.Atom{Mark: m, Sign: "abc"[draw.Intn(3)]})
			}
		}
	}
	return out[:many]
}
