package world

import (
	"commonplace/api"
	"commonplace/desk"
	"commonplace/fresh"
	"commonplace/relay"
)

// scene: where things happen, in a world that is its own.
type scene struct{ api.World }

// play in a world what do tells. It is checked here alone: whatever happens in a world that is right, it stays right.
func play(w api.World, do func(s *scene) api.Errno) (api.World, api.Errno) {
	if e := Check(w); e != api.OK {
		return api.World{}, e
	}
	s := &scene{fresh.World(w)}
	if e := do(s); e != api.OK {
		return api.World{}, e
	}
	return s.World, api.OK
}

func (s *scene) script(l []api.Happening) api.Errno {
	if len(l) > api.MaxScript {
		return api.ErrMany
	}
	for _, h := range l {
		if e := s.happen(h); e != api.OK {
			return e
		}
	}
	return api.OK
}

func (s *scene) happen(h api.Happening) api.Errno {
	if e := check(h, len(s.Clients)); e != api.OK {
		return e
	}
	switch h.Kind {
	case api.HappenSend:
		s.send(h.Who, h.Lost)
	case api.HappenPull:
		// What is lost on the way leaves no trace, neither here nor at the relay.
		if !h.Lost {
			s.pull(h.Who, h.Many)
		}
	default:
		s.write(h)
	}
	return api.OK
}

func (s *scene) write(h api.Happening) {
	c := &s.Clients[h.Who]
	if d, e := written(c.Desk, h); e == api.OK {
		c.Desk = d
	}
}

// written: what a desk is when something was put, taken or written there.
func written(d api.Desk, h api.Happening) (api.Desk, api.Errno) {
	size := len(d.State.Atoms)
	at := min(h.At, size)
	switch h.Kind {
	case api.HappenPut:
		return desk.Type(d, at, h.Text)
	case api.HappenTake:
		return desk.Cut(d, at, min(h.Many, size-at))
	}
	return desk.Write(d, h.Text)
}

// send a client's first note Out: whether there was one, and the relay did not refuse it.
func (s *scene) send(who int, lost bool) bool {
	c := &s.Clients[who]
	if len(c.Desk.Out) == 0 {
		return false
	}
	r, _, e := relay.Post(s.Relay, c.Desk.Out[0])
	if e != api.OK {
		return false
	}
	s.Relay = r
	if !lost {
		c.Desk, _ = desk.Taken(c.Desk)
	}
	return true
}

// pull notes to a client's desk: all of them, or none.
func (s *scene) pull(who, many int) {
	c := s.Clients[who]
	l, _ := relay.Pull(s.Relay, c.Cursor, many)
	for _, n := range l {
		var e api.Errno
		if c.Desk, e = desk.Receive(c.Desk, n); e != api.OK {
			return
		}
	}
	c.Cursor += len(l)
	s.Clients[who] = c
}

func (s *scene) settle() {
	for who := range s.Clients {
		for s.send(who, false) {
		}
	}
	for who := range s.Clients {
		s.pull(who, api.MaxLog)
	}
}
