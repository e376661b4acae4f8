package wire

import "commonplace/api"

// reader of bytes, whatever they are; wrong, as soon as no note begins with them.
// It reads on all the same: behind the last byte all is 0, so that it soon ends.
type reader struct {
	left  string
	wrong bool
}

func (r *reader) one() int {
	if r.left == "" {
		r.wrong = true
		return 0
	}
	b := r.left[0]
	r.left = r.left[1:]
	return int(b)
}

func (r *reader) two() int {
	low := r.one()
	return low + 256*r.one()
}

// list of so many things, each of which is what read answers.
func list[T any](many int, read func() T) []T {
	var out []T
	for range many {
		out = append(out, read())
	}
	return out
}

func (r *reader) note() api.Note {
	var n api.Note
	n.Site = r.one()
	n.Number = r.two()
	n.Needs = list(api.MaxSites, func() int { return r.two() })
	n.Deeds = list(r.one(), func() api.Deed { return r.deed() })
	return n
}

func (r *reader) deed() api.Deed {
	d := api.Deed{Kind: r.one()}
	switch d.Kind {
	case api.DeedPut:
		d.Run.Mark = r.mark()
		d.Run.Text = r.text()
	case api.DeedTake:
		d.Mark = r.mark()
		d.Many = r.one()
	default:
		r.wrong = true
	}
	return d
}

func (r *reader) mark() api.Mark {
	var m api.Mark
	m.Path = list(r.one(), func() api.Step {
		digit := r.one()
		return api.Step{Digit: digit, Site: r.one()}
	})
	m.Clock = r.two()
	return m
}

func (r *reader) text() string {
	return string(list(r.one(), func() byte { return byte(r.one()) }))
}
