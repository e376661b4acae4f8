package world

import "commonplace/api"

// names: what a kind of happening names.
type names struct{ at, many, text, lost bool }

// namesOf a kind, if there is such a kind.
func namesOf(kind int) (n names, found bool) {
	switch kind {
	case api.HappenPut:
		return names{at: true, text: true}, true
	case api.HappenTake:
		return names{at: true, many: true}, true
	case api.HappenSend:
		return names{lost: true}, true
	case api.HappenPull:
		return names{many: true, lost: true}, true
	case api.HappenWrite:
		return names{text: true}, true
	}
	return names{}, false
}

// check a happening of a world of so many clients.
func check(h api.Happening, clients int) api.Errno {
	n, found := namesOf(h.Kind)
	switch {
	case !found:
		return api.ErrKind
	case h.Who < 0 || h.Who >= clients:
		return api.ErrNone
	case hasMore(h, n):
		return api.ErrForm
	case !mayBe(h.At) || !mayBe(h.Many):
		return api.ErrRange
	case len(h.Text) > api.MaxText:
		return api.ErrMany
	}
	return api.OK
}

// hasMore: whether something is there that is not named.
func hasMore(h api.Happening, n names) bool {
	return h.At != 0 && !n.at || h.Many != 0 && !n.many || h.Text != "" && !n.text || h.Lost && !n.lost
}

func mayBe(n int) bool { return n >= 0 && n <= api.MaxLog }
