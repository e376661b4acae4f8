package wire

import (
	"commonplace/api"
	"commonplace/sign"
)

// writer of notes that are right: so each number has room in its bytes.
type writer struct{ done []byte }

func (w *writer) one(x int) { w.done = append(w.done, byte(x)) }

func (w *writer) two(x int) {
	w.one(x % 256)
	w.one(x / 256)
}

func (w *writer) note(n api.Note) {
	w.one(n.Site)
	w.two(n.Number)
	for _, x := range n.Needs {
		w.two(x)
	}
	w.one(len(n.Deeds))
	for _, d := range n.Deeds {
		w.deed(d)
	}
}

func (w *writer) deed(d api.Deed) {
	w.one(d.Kind)
	if d.Kind == api.DeedPut {
		w.mark(d.Run.Mark)
		w.text(d.Run.Text)
		return
	}
	w.mark(d.Mark)
	w.one(d.Many)
}

func (w *writer) mark(m api.Mark) {
	w.one(len(m.Path))
	for _, s := range m.Path {
		w.one(s.Digit)
		w.one(s.Site)
	}
	w.two(m.Clock)
}

func (w *writer) text(t string) {
	w.one(len(t))
	sign.Each(t, func(_ int, b byte) { w.one(int(b)) })
}
