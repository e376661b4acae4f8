// Package fresh: copies that share no memory with what they are copies of.
package fresh

import (
	"slices"

	"commonplace/api"
)

// Mark: a copy of one.
func Mark(m api.Mark) api.Mark {
	return api.Mark{Path: slices.Clone(m.Path), Clock: m.Clock}
}
