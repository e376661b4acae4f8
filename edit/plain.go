package edit

import (
	"commonplace/api"
	"commonplace/sign"
)

// Plain edit.
func Plain(s string, e api.Edit) (string, api.Errno) {
	switch {
	case len(s) > api.MaxText:
		return "", api.ErrMany
	case !sign.All(s):
		return "", api.ErrRange
	}
	switch e.Kind {
	case api.EditPut:
		return plainPut(s, e)
	case api.EditTake:
		return plainTake(s, e)
	}
	return "", api.ErrKind
}

func plainPut(s string, e api.Edit) (string, api.Errno) {
	switch {
	case e.Many != 0:
		return "", api.ErrForm
	case !isPlace(e.At, len(s)) || !sign.All(e.Text):
		return "", api.ErrRange
	case len(s)+len(e.Text) > api.MaxText:
		return "", api.ErrMany
	}
	return s[:e.At] + e.Text + s[e.At:], api.OK
}

func plainTake(s string, e api.Edit) (string, api.Errno) {
	switch {
	case e.Text != "":
		return "", api.ErrForm
	case !isPiece(e.At, e.Many, len(s)):
		return "", api.ErrRange
	}
	return s[:e.At] + s[e.At+e.Many:], api.OK
}

// isPlace: whether there is such a place among so many signs.
func isPlace(at, signs int) bool { return at >= 0 && at <= signs }

// isPiece: whether so many of the signs stand from a place on.
func isPiece(at, many, signs int) bool {
	// The sum of at and many might wrap round; this difference can't.
	return at >= 0 && many >= 0 && at <= signs-many
}
