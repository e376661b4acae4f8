package wire_test

import (
	"math/rand"
	"reflect"
	"slices"
	"strings"

	"commonplace/api"
)

// of: a mark of digits, each with its site, with a clock.
func of(clock int, l ...int) api.Mark {
	out := api.Mark{Clock: clock}
	for i := 0; i+1 < len(l); i += 2 {
		out.Path = append(out.Path, api.Step{Digit: l[i], Site: l[i+1]})
	}
	return out
}

// deep: a mark of so many steps.
func deep(steps int) api.Mark {
	return api.Mark{Path: slices.Repeat([]api.Step{{Digit: 1, Site: 1}}, steps), Clock: 1}
}

func put(m api.Mark, text string) api.Deed {
	return api.Deed{Kind: api.DeedPut, Run: api.Run{Mark: m, Text: text}}
}

func take(m api.Mark, many int) api.Deed {
	return api.Deed{Kind: api.DeedTake, Mark: m, Many: many}
}

func xs(n int) string { return strings.Repeat("x", n) }

// note 3 of site 1, with deeds of both kinds.
func note() api.Note {
	return api.Note{Site: 1, Number: 3, Needs: []int{7, 2, 0, 500, 0}, Deeds: []api.Deed{
		put(of(300, 3, 0, 200, 1), "h"),
		take(of(9990, 4, 2), 11),
		put(of(1, 9, 4), "a b"),
	}}
}

// noteBytes: those of note, by hand.
func noteBytes() string {
	return "\x01" + "\x03\x00" + "\x07\x00" + "\x02\x00" + "\x00\x00" + "\xf4\x01" + "\x00\x00" + "\x03" +
		"\x01" + "\x02" + "\x03\x00" + "\xc8\x01" + "\x2c\x01" + "\x01" + "h" +
		"\x02" + "\x01" + "\x04\x02" + "\x06\x27" + "\x0b" +
		"\x01" + "\x01" + "\x09\x04" + "\x01\x00" + "\x03" + "a b"
}

// least: the least note that is right.
func least() api.Note {
	return api.Note{Number: 1, Needs: make([]int, 5), Deeds: []api.Deed{take(of(1, 1, 0), 1)}}
}

// greatest: a note with as much of all as may be.
func greatest() api.Note {
	digits := slices.Repeat([]int{200, 4}, 10)
	m := of(9941, digits...)
	m.Path[9].Digit = 141
	deeds := slices.Repeat([]api.Deed{put(m, strings.Repeat("~", 60)), take(m, 60)}, 10)
	return api.Note{Site: 4, Number: 500, Needs: []int{500, 500, 500, 500, 499}, Deeds: deeds}
}

// head of bytes, up to how many deeds there are, of site 0's note 1.
func head(deeds int) string {
	return "\x00\x01\x00" + strings.Repeat("\x00", 10) + string([]byte{byte(deeds)})
}

// same: lists without elements are the same, nil or not.
func same(a, b api.Note) bool { return reflect.DeepEqual(plain(a), plain(b)) }

// plain: the same note, with nil for each list without elements.
func plain(n api.Note) api.Note {
	n.Needs = slices.Concat(n.Needs)
	n.Deeds = slices.Concat(n.Deeds)
	for i := range n.Deeds {
		d := &n.Deeds[i]
		d.Mark.Path = slices.Concat(d.Mark.Path)
		d.Run.Mark.Path = slices.Concat(d.Run.Mark.Path)
	}
	return n
}

func isZero(n api.Note) bool { return same(n, api.Note{}) }

// drawMark that is right, as are the so many marks behind it.
func drawMark(draw *rand.Rand, more int) api.Mark {
	m := api.Mark{Clock: 1 + draw.Intn(api.MaxClock-more)}
	for range 1 + draw.Intn(api.MaxDepth) {
		m.Path = append(m.Path, api.Step{Digit: draw.Intn(api.MaxDigit + 1), Site: draw.Intn(api.MaxSites)})
	}
	m.Path[len(m.Path)-1].Digit = 1 + draw.Intn(api.MaxDigit-more)
	return m
}

func drawDeed(draw *rand.Rand) api.Deed {
	many := 1 + draw.Intn(api.MaxRun)
	m := drawMark(draw, many-1)
	if draw.Intn(2) == 0 {
		return take(m, many)
	}
	text := make([]byte, many)
	for i := range text {
		text[i] = byte(32 + draw.Intn(95))
	}
	return put(m, string(text))
}

// drawNote that is right.
func drawNote(draw *rand.Rand) api.Note {
	n := api.Note{Site: draw.Intn(api.MaxSites), Number: 1 + draw.Intn(api.MaxNumber)}
	for range api.MaxSites {
		n.Needs = append(n.Needs, draw.Intn(api.MaxNumber+1))
	}
	n.Needs[n.Site] = n.Number - 1
	for range 1 + draw.Intn(api.MaxDeeds) {
		n.Deeds = append(n.Deeds, drawDeed(draw))
	}
	return n
}
