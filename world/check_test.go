package world_test

import (
	"testing"

	"commonplace/api"
	"commonplace/desk"
	"commonplace/world"
)

func TestL1New(t *testing.T) {
	for _, clients := range []int{-1 << 62, -1, 0, 6, 1 << 62} {
		if w, e := world.New(clients); e != api.ErrRange || !isZero(w) {
			t.Errorf("%d clients: %+v, %d", clients, w, e)
		}
	}
	for clients := 1; clients <= api.MaxSites; clients++ {
		w := newWorld(t, clients)
		var want api.World
		for site := range clients {
			d, _ := desk.New(site)
			want.Clients = append(want.Clients, api.Client{Desk: d})
		}
		if !same(w, want) || world.Check(w) != api.OK {
			t.Errorf("%d clients: %+v, Check %d", clients, w, world.Check(w))
		}
	}
}

func TestL1Right(t *testing.T) {
	if e := world.Check(right(t)); e != api.OK {
		t.Errorf("right: %d", e)
	}
	// The relay may have notes of sites that are no client's, and other ones than the desks' own.
	w := newWorld(t, 1)
	w.Relay.Log = append(notes(4, 1, 100), notes(0, 1, 200)...)
	for _, cursor := range []int{0, 1, 300} {
		w.Clients[0].Cursor = cursor
		if e := world.Check(w); e != api.OK {
			t.Errorf("cursor %d: %d", cursor, e)
		}
	}
}

func TestL1Errors(t *testing.T) {
	for name, x := range wrongWorlds(t) {
		if e := world.Check(x.w); e != x.want {
			t.Errorf("%s: %d", name, e)
		}
	}
}

// Of what is wrong, what is named first tells: client by client, and behind them the relay.
func TestL1FirstError(t *testing.T) {
	kind := func(w *api.World) { w.Relay.Log[0].Deeds[0].Kind = 0 }
	for name, x := range map[string]struct {
		change func(w *api.World)
		want   api.Errno
	}{
		"clients, relay":         {func(w *api.World) { w.Clients = nil }, api.ErrRange},
		"clients, desks":         {func(w *api.World) { w.Clients = append(w.Clients, w.Clients...) }, api.ErrRange},
		"desk, its place":        {func(w *api.World) { w.Clients[0].Desk.Site, w.Clients[0].Desk.Seen = 1, nil }, api.ErrForm},
		"desk, its cursor":       {func(w *api.World) { w.Clients[1].Desk.Seen, w.Clients[1].Cursor = nil, -1 }, api.ErrForm},
		"place, cursor":          {func(w *api.World) { w.Clients[0] = w.Clients[1]; w.Clients[0].Cursor = 99 }, api.ErrState},
		"cursor, the next desk":  {func(w *api.World) { w.Clients[0].Cursor, w.Clients[1].Desk.Seen = 99, nil }, api.ErrRange},
		"place, the next desk":   {func(w *api.World) { w.Clients[0], w.Clients[1].Desk.Seen = w.Clients[2], nil }, api.ErrState},
		"the last cursor, relay": {func(w *api.World) { w.Clients[2].Cursor = 99 }, api.ErrRange},
		"the last desk, relay":   {func(w *api.World) { w.Clients[2].Desk.Seen = nil }, api.ErrForm},
		"relay":                  {func(w *api.World) {}, api.ErrKind},
	} {
		w := right(t)
		kind(&w)
		x.change(&w)
		if e := world.Check(w); e != x.want {
			t.Errorf("%s: %d", name, e)
		}
	}
}

// What is wrong with the world comes ahead of all else that is wrong.
func TestL1FirstOfAllCalls(t *testing.T) {
	for name, x := range wrongWorlds(t) {
		for _, h := range []api.Happening{{}, put(0, 0, "a"), send(9), pull(0, -1), write(0, xs(301))} {
			if got, e := world.Do(x.w, h); e != x.want || !isZero(got) {
				t.Errorf("%s: Do: %+v, %d", name, got, e)
			}
		}
		for _, l := range [][]api.Happening{nil, {{}}, {send(0), send(1)}, make([]api.Happening, 81)} {
			if got, e := world.Run(x.w, l); e != x.want || !isZero(got) {
				t.Errorf("%s: Run of %d: %+v, %d", name, len(l), got, e)
			}
		}
		if got, e := world.Settle(x.w); e != x.want || !isZero(got) {
			t.Errorf("%s: Settle: %+v, %d", name, got, e)
		}
	}
}
