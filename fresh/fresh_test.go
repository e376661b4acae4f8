package fresh_test

import (
	"reflect"
	"testing"

	"commonplace/api"
	"commonplace/fresh"
)

func TestMark(t *testing.T) {
	room := []api.Step{{Digit: 3, Site: 1}, {Digit: 4, Site: 2}, {Digit: 77, Site: 7}}
	m := api.Mark{Path: room[:2], Clock: 5}
	got := fresh.Mark(m)
	if !reflect.DeepEqual(got, m) {
		t.Fatalf("the copy is %v", got)
	}
	got.Path[0].Digit = 99
	_ = append(got.Path, api.Step{Digit: 99})
	if room[0].Digit != 3 || room[2].Digit != 77 {
		t.Error("the copy shares memory")
	}
	if got := fresh.Mark(api.Mark{}); len(got.Path) != 0 || got.Clock != 0 {
		t.Errorf("the copy of nothing is %v", got)
	}
}

// desk with something in each list, and spare room behind each.
func desk() api.Desk {
	path := func(digit int) api.Mark {
		return api.Mark{Path: append(make([]api.Step, 0, 3), api.Step{Digit: digit, Site: 1}), Clock: digit}
	}
	note := func(number int) api.Note {
		deeds := append(make([]api.Deed, 0, 4), api.Deed{Kind: 1, Run: api.Run{Mark: path(5), Text: "a"}}, api.Deed{Kind: 2, Mark: path(6), Many: 2})
		return api.Note{Site: 2, Number: number, Needs: append(make([]int, 0, 9), 1, 2, 3), Deeds: deeds}
	}
	return api.Desk{
		Site:  3,
		State: api.State{Atoms: append(make([]api.Atom, 0, 4), api.Atom{Mark: path(1), Sign: 'x'}), Gone: append(make([]api.Mark, 0, 4), path(2))},
		Seen:  append(make([]int, 0, 9), 7, 8),
		Waits: append(make([]api.Note, 0, 4), note(1), note(2)),
		Clock: 9,
		Out:   append(make([]api.Note, 0, 4), note(3)),
	}
}

// spoil whatever a value has in lists, and the room behind them.
func spoil(v reflect.Value) {
	switch v.Kind() {
	case reflect.Struct:
		for i := range v.NumField() {
			spoil(v.Field(i))
		}
	case reflect.Slice:
		all := v.Slice(0, v.Cap())
		for i := range all.Len() {
			spoil(all.Index(i))
			all.Index(i).SetZero()
		}
	}
}

func TestDesk(t *testing.T) {
	d := desk()
	got := fresh.Desk(d)
	if !reflect.DeepEqual(got, desk()) {
		t.Fatalf("the copy is %v", got)
	}
	spoil(reflect.ValueOf(got))
	if !reflect.DeepEqual(d, desk()) {
		t.Error("the copy shares memory")
	}
	if got := fresh.Desk(api.Desk{}); !reflect.DeepEqual(got, api.Desk{}) {
		t.Errorf("the copy of nothing is %v", got)
	}
}

func TestNote(t *testing.T) {
	n := desk().Waits[1]
	got := fresh.Note(n)
	if !reflect.DeepEqual(got, desk().Waits[1]) {
		t.Fatalf("the copy is %v", got)
	}
	spoil(reflect.ValueOf(got))
	if !reflect.DeepEqual(n, desk().Waits[1]) {
		t.Error("the copy shares memory")
	}
}

func TestNotes(t *testing.T) {
	l := desk().Waits
	got := fresh.Notes(l)
	if !reflect.DeepEqual(got, desk().Waits) {
		t.Fatalf("the copy is %v", got)
	}
	spoil(reflect.ValueOf(got))
	if !reflect.DeepEqual(l, desk().Waits) {
		t.Error("the copy shares memory")
	}
	if got := fresh.Notes(nil); len(got) != 0 {
		t.Errorf("the copy of nothing is %v", got)
	}
}

// world with something in each list, and spare room behind each.
func world() api.World {
	return api.World{
		Clients: append(make([]api.Client, 0, 4), api.Client{Desk: desk(), Cursor: 1}, api.Client{Desk: desk(), Cursor: 2}),
		Relay:   api.Relay{Log: desk().Waits},
	}
}

func TestWorld(t *testing.T) {
	w := world()
	got := fresh.World(w)
	if !reflect.DeepEqual(got, world()) {
		t.Fatalf("the copy is %v", got)
	}
	spoil(reflect.ValueOf(got))
	if !reflect.DeepEqual(w, world()) {
		t.Error("the copy shares memory")
	}
	if got := fresh.World(api.World{}); !reflect.DeepEqual(got, api.World{}) {
		t.Errorf("the copy of nothing is %v", got)
	}
}
