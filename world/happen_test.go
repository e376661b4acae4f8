package world_test

import (
	"math"
	"slices"
	"testing"

	"commonplace/api"
	"commonplace/desk"
	"commonplace/world"
)

// becomes: what happens makes of a client's desk just what is told, and leaves all else as it was.
func becomes(t *testing.T, w api.World, h api.Happening, d api.Desk, e api.Errno) {
	t.Helper()
	if e != api.OK {
		t.Fatalf("%+v: the desk has an error: %d", h, e)
	}
	want := with(w, h.Who, func(c *api.Client) { c.Desk = d })
	if got := do(t, w, h); !same(got, want) {
		t.Errorf("%+v: %+v, and must be %+v", h, got, want)
	}
}

func TestL2Put(t *testing.T) {
	w := right(t)
	for who, c := range w.Clients {
		size := len(c.Desk.State.Atoms)
		for at := range size + 1 {
			d, e := desk.Type(c.Desk, at, "new")
			becomes(t, w, put(who, at, "new"), d, e)
		}
		// Beyond the text is at its end.
		d, e := desk.Type(c.Desk, size, "!")
		for _, at := range []int{size + 1, 99, 300} {
			becomes(t, w, put(who, at, "!"), d, e)
		}
	}
	stays(t, "no text", w, put(0, 0, ""))
	stays(t, "no sign", w, put(0, 0, "a\x7f"))
	stays(t, "61 signs", w, put(0, 0, xs(61)))
	stays(t, "no sign at the end", w, put(1, 300, "\n"))
	full := with(w, 1, func(c *api.Client) { c.Desk.State.Atoms, c.Desk.Out = atoms(300), nil })
	stays(t, "full", full, put(1, 7, "a"))
}

func TestL2Take(t *testing.T) {
	w := right(t)
	for who, c := range w.Clients {
		size := len(c.Desk.State.Atoms)
		for at := range size {
			d, e := desk.Cut(c.Desk, at, 1)
			becomes(t, w, take(who, at, 1), d, e)
			// As many as there are.
			d, e = desk.Cut(c.Desk, at, size-at)
			for _, many := range []int{size - at, size - at + 1, 300} {
				becomes(t, w, take(who, at, many), d, e)
			}
		}
		for _, at := range []int{0, 1, size, size + 1, 300} {
			stays(t, "none", w, take(who, at, 0))
		}
		for _, at := range []int{size, size + 1, 300} {
			stays(t, "beyond the text", w, take(who, at, 300))
		}
	}
	// 21 deeds are one too many.
	apart := atoms(60)
	for i := range apart {
		apart[i].Mark.Clock = 1 + 2*i
	}
	w = with(newWorld(t, 2), 1, func(c *api.Client) { c.Desk.State.Atoms = apart })
	stays(t, "too many deeds", w, take(1, 0, 21))
	if got := do(t, w, take(1, 0, 20)); len(got.Clients[1].Desk.State.Atoms) != 40 {
		t.Errorf("%v", texts(got))
	}
}

func TestL2Write(t *testing.T) {
	w := right(t)
	for who, c := range w.Clients {
		for _, text := range []string{"", "a", "hello, world", xs(60), textOf(c.Desk)} {
			d, e := desk.Write(c.Desk, text)
			becomes(t, w, write(who, text), d, e)
		}
	}
	stays(t, "the same text", w, write(0, textOf(w.Clients[0].Desk)))
	stays(t, "no sign", w, write(0, "\x1f"))
	full := with(newWorld(t, 1), 0, func(c *api.Client) { c.Desk.Seen[0] = api.MaxNumber })
	stays(t, "no more numbers", full, write(0, "a"))
}

func TestL2Send(t *testing.T) {
	w := do(t, newWorld(t, 3), put(1, 0, "a"), put(1, 1, "b"))
	out := w.Clients[1].Desk.Out
	stays(t, "nothing is out", w, send(0))
	stays(t, "nothing is out, lost", w, lost(send(2)))
	// It is told so, or it is not: the relay has it.
	want := w
	want.Relay.Log = out[:1]
	unheard := do(t, w, lost(send(1)))
	if !same(unheard, want) {
		t.Errorf("lost: %+v", unheard)
	}
	stays(t, "lost again", unheard, lost(send(1)))
	want = with(want, 1, func(c *api.Client) { c.Desk.Out = out[1:] })
	if got := do(t, w, send(1)); !same(got, want) {
		t.Errorf("%+v", got)
	}
	if got := do(t, unheard, send(1)); !same(got, want) {
		t.Errorf("lost, then not: %+v", got)
	}
	want = with(want, 1, func(c *api.Client) { c.Desk.Out = nil })
	want.Relay.Log = out
	if got := do(t, unheard, send(1), send(1)); !same(got, want) {
		t.Errorf("both: %+v", got)
	}
}

// What the relay refuses stays Out.
func TestL2SendRefused(t *testing.T) {
	w := do(t, newWorld(t, 2), put(0, 0, "a"), put(0, 1, "b"), send(0), send(0), put(0, 2, "c"))
	gap := w
	gap.Relay.Log = gap.Relay.Log[:1]
	full := w
	full.Relay.Log = append(slices.Clone(w.Relay.Log), notes(1, 1, 298)...)
	for _, h := range []api.Happening{send(0), lost(send(0))} {
		stays(t, "one is not there", gap, h)
		stays(t, "no room", full, h)
	}
	// There is no room, but it is there already.
	full.Relay.Log = append(slices.Clone(w.Relay.Log), note(0, 3))
	full.Relay.Log = append(full.Relay.Log, notes(1, 1, 297)...)
	want := with(full, 0, func(c *api.Client) { c.Desk.Out = nil })
	if got := do(t, full, send(0)); !same(got, want) {
		t.Errorf("%+v", got)
	}
	stays(t, "there already, lost", full, lost(send(0)))
}

func TestL2Pull(t *testing.T) {
	w := right(t)
	for who, c := range w.Clients {
		for _, many := range []int{0, 1, 2, 3, 300} {
			came := w.Relay.Log[c.Cursor:]
			came = came[:min(many, len(came))]
			want := with(w, who, func(c *api.Client) {
				c.Cursor += len(came)
				for _, n := range came {
					c.Desk, _ = desk.Receive(c.Desk, n)
				}
			})
			if got := do(t, w, pull(who, many)); !same(got, want) {
				t.Errorf("%d pulls %d: %+v", who, many, got)
			}
			stays(t, "lost", w, lost(pull(who, many)))
		}
		all := do(t, w, pull(who, 300))
		stays(t, "there is no more", all, pull(who, 300))
	}
}

// If one of them can't be received, none is.
func TestL2PullRefused(t *testing.T) {
	w := with(newWorld(t, 2), 0, func(c *api.Client) { c.Desk.State.Atoms = atoms(298) })
	w.Relay.Log = notes(1, 1, 3)
	two := do(t, w, pull(0, 2))
	if len(two.Clients[0].Desk.State.Atoms) != 300 || two.Clients[0].Cursor != 2 {
		t.Errorf("%d signs, cursor %d", len(two.Clients[0].Desk.State.Atoms), two.Clients[0].Cursor)
	}
	stays(t, "the last has no room", w, pull(0, 3))
	stays(t, "it has no room", two, pull(0, 1))
	// It needs a note of the desk's own that the desk never made.
	w = newWorld(t, 3)
	w.Relay.Log = append(notes(1, 1, 2), note(2, 1))
	w.Relay.Log[1].Needs[0] = 1
	stays(t, "it needs what is not", w, pull(0, 300))
	if got := do(t, w, pull(0, 1), pull(2, 300)); got.Clients[0].Cursor != 1 || got.Clients[2].Cursor != 3 || len(got.Clients[2].Desk.Waits) != 1 {
		t.Errorf("%+v", got)
	}
	// One more than may wait.
	w.Relay.Log = append(w.Relay.Log[:1], notes(1, 2, 42)...)
	w.Relay.Log[0].Needs[2] = 1
	stays(t, "too many wait", w, pull(0, 41))
	if got := do(t, w, pull(0, 40)); len(got.Clients[0].Desk.Waits) != 40 || got.Clients[0].Cursor != 40 {
		t.Errorf("%+v", got.Clients[0])
	}
}

type wrongHappening struct {
	h    api.Happening
	want api.Errno
}

// wrongHappenings of a world of three, and what is wrong with them.
func wrongHappenings() map[string]wrongHappening {
	out := map[string]wrongHappening{
		"nothing":                {api.Happening{}, api.ErrKind},
		"kind 6":                 {api.Happening{Kind: 6}, api.ErrKind},
		"kind below 0":           {api.Happening{Kind: -1}, api.ErrKind},
		"no kind, no client":     {api.Happening{Kind: 6, Who: 9, At: -1, Lost: true}, api.ErrKind},
		"no client, and form":    {api.Happening{Kind: api.HappenSend, Who: 3, At: 1}, api.ErrNone},
		"no client, and range":   {api.Happening{Kind: api.HappenPut, Who: -1, At: -1}, api.ErrNone},
		"form, and range":        {api.Happening{Kind: api.HappenPut, At: -1, Many: 1}, api.ErrForm},
		"form, and too long":     {api.Happening{Kind: api.HappenTake, At: 301, Text: xs(301)}, api.ErrForm},
		"range, and too long":    {put(0, 301, xs(301)), api.ErrRange},
		"a text that is too far": {put(0, math.MaxInt, "a"), api.ErrRange},
		"put too much":           {put(2, 0, xs(301)), api.ErrMany},
		"put too much, no signs": {put(2, 300, string(make([]byte, 301))), api.ErrMany},
		"write too much":         {write(2, xs(301)), api.ErrMany},
	}
	for kind := api.HappenPut; kind <= api.HappenWrite; kind++ {
		for _, who := range []int{-1, 3, math.MinInt, math.MaxInt} {
			out[text("who", kind, who)] = wrongHappening{api.Happening{Kind: kind, Who: who}, api.ErrNone}
		}
		for _, n := range []int{-1, 301, 1, math.MinInt, math.MaxInt} {
			named := func(yes bool) api.Errno {
				switch {
				case !yes:
					return api.ErrForm
				case n == 1:
					return api.OK
				}
				return api.ErrRange
			}
			out[text("at", kind, n)] = wrongHappening{api.Happening{Kind: kind, At: n}, named(kind == api.HappenPut || kind == api.HappenTake)}
			out[text("many", kind, n)] = wrongHappening{api.Happening{Kind: kind, Many: n}, named(kind == api.HappenTake || kind == api.HappenPull)}
		}
	}
	for _, kind := range []int{api.HappenTake, api.HappenSend, api.HappenPull} {
		out[text("text", kind, 0)] = wrongHappening{api.Happening{Kind: kind, Text: "a"}, api.ErrForm}
	}
	for _, kind := range []int{api.HappenPut, api.HappenTake, api.HappenWrite} {
		out[text("lost", kind, 0)] = wrongHappening{api.Happening{Kind: kind, Lost: true}, api.ErrForm}
	}
	return out
}

func TestL2Errors(t *testing.T) {
	w := right(t)
	for name, x := range wrongHappenings() {
		got, e := world.Do(w, x.h)
		if e != x.want || (e != api.OK) != isZero(got) {
			t.Errorf("%s: %+v, %d", name, got, e)
		}
		// Whatever happened ahead of it, and whatever was to happen.
		got, e = world.Run(w, []api.Happening{put(0, 0, "a"), send(0), x.h, send(1)})
		if e != x.want || (e != api.OK) != isZero(got) {
			t.Errorf("%s, in a script: %+v, %d", name, got, e)
		}
	}
	// As far as may be.
	do(t, w, put(2, 300, "a"), put(2, 0, xs(300)), take(0, 300, 300), pull(2, 300), pull(2, 0), write(1, xs(300)), lost(send(0)), lost(pull(1, 300)))
}

func TestL2Run(t *testing.T) {
	l := []api.Happening{put(0, 0, "one"), send(0), lost(pull(1, 3)), write(1, "two"), put(2, 9, "\n"), pull(1, 9), lost(send(1)), send(1), take(1, 2, 2), pull(0, 1), pull(0, 9), pull(2, 300)}
	w := right(t)
	for i := range len(l) + 1 {
		got, e := world.Run(w, l[:i])
		if want := do(t, w, l[:i]...); e != api.OK || !same(got, want) {
			t.Errorf("the first %d: %+v, %d", i, got, e)
		}
	}
	// The first error tells.
	if got, e := world.Run(w, []api.Happening{send(0), pull(0, 301), {}}); e != api.ErrRange || !isZero(got) {
		t.Errorf("%+v, %d", got, e)
	}
}

func TestL2RunMaxScript(t *testing.T) {
	w := newWorld(t, 2)
	l := slices.Repeat([]api.Happening{put(1, 0, "a")}, 81)
	if got, e := world.Run(w, l[:80]); e != api.OK || len(got.Clients[1].Desk.Out) != 80 {
		t.Errorf("80: %d", e)
	}
	if got, e := world.Run(w, l); e != api.ErrMany || !isZero(got) {
		t.Errorf("81: %+v, %d", got, e)
	}
	if got, e := world.Run(w, make([]api.Happening, 81)); e != api.ErrMany || !isZero(got) {
		t.Errorf("81 that are wrong: %+v, %d", got, e)
	}
	if got, e := world.Run(w, make([]api.Happening, 80)); e != api.ErrKind || !isZero(got) {
		t.Errorf("80 that are wrong: %+v, %d", got, e)
	}
}
